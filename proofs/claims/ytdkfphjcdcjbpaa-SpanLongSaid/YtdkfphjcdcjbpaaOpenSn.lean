/-
  Spans that came in.
-/
import Derived.Test.YtdkfphjcdcjbpaaOpenPl

import Derived.Test.YtdkfphjcdcjbpaaSnEq

import Derived.ProofKit

import Derived.OpenShut

import Derived.Deep.Slices

import Derived.Lib.SmallJoins

import Derived.ChangeArms

namespace Go.Proofs.Ytdkfphjcdcjbpaa

open Go.RowKit

open Go.Great Go.ChangeShapes Go.WideShapes Go.ChangeAt Go.Deep Go.Joins

instance : Inhabited Sn3 := ⟨⟨0, 0, 0⟩⟩
set_option maxRecDepth 100000 in
theorem el_span15 {H : Type} {enc : TypeId × Value → H} {W : World} (fuel : Nat) (cs : List Value) (y : DataW H × List MemPlace) (hl : cs.length = 3) (h : DataW.trod enc Try.prog W 0 (fun _ => true) true fuel 41 cs = some y) : ∃ x : Sn3, cs = snC x ∧ True := by
  have kI : Try.prog.cellsOf 3 = 1 := by kernel_rfl
  obtain ⟨xs, n, _, _, _, hxl, hg⟩ := DataW.trod_struct Try.underlying41 h
  match cs, hl, xs, hxl with
  | [v0, v1, v2], _, [y0, y1, y2], _ =>
    have g0 : DataW.trod enc Try.prog W 0 (fun _ => true) true n 3 [v0] = some y0 := by simpa [kI] using hg 0 _ rfl
    have g1 : DataW.trod enc Try.prog W 0 (fun _ => true) true n 3 [v1] = some y1 := by simpa [kI] using hg 1 _ rfl
    have g2 : DataW.trod enc Try.prog W 0 (fun _ => true) true n 3 [v2] = some y2 := by simpa [kI] using hg 2 _ rfl
    obtain ⟨a0, e0, _, _⟩ := DataW.trod_int Try.underlying3 g0
    obtain ⟨a1, e1, _, _⟩ := DataW.trod_int Try.underlying3 g1
    obtain ⟨a2, e2, _, _⟩ := DataW.trod_int Try.underlying3 g2
    simp at e0 e1 e2
    subst e0 e1 e2
    exact ⟨⟨a0, a1, a2⟩, rfl, trivial⟩
set_option maxRecDepth 100000 in
theorem spans_open {H : Type} {enc : TypeId × Value → H} {W : World} {r : Reach} {b0 : Nat} {v : Value} {d : DataW H} {p : List MemPlace} (hv : Value.okWide Try.prog W r b0 22 v)
    (h : DataW.Trod enc Try.prog W 0 (fun _ => true) true 22 v d p) : ∃ (A : Option Addr) (n c : Nat) (l : List Sn3), v = .slice A n c ∧ SlO snC 3 W A n c l ∧ n ≤ c := by
  obtain ⟨A, n, c, rfl⟩ := okWide_slice Try.underlying22 hv
  obtain ⟨fuel, hf⟩ := h
  obtain ⟨A', c', l, e, hs, hc, _⟩ := slo_open13 (v := .slice A n c) (f := snC) (k := 3) (by decide) (fun _ => rfl) Try.underlying22 (by kernel_rfl) el_span15 (by simpa [Value.cells] using hf)
  injection e with e1 e2 e3
  subst e1 e2 e3
  exact ⟨A, l.length, c, l, rfl, hs, hc⟩
end Go.Proofs.Ytdkfphjcdcjbpaa
