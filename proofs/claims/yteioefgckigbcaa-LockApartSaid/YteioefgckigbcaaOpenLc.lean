/-
  Locks, interlockings, and calls of lock that came in.
-/
import Derived.Test.YteioefgckigbcaaOpenTp

import Derived.Test.YteioefgckigbcaaLcEq

import Derived.ProofKit

import Derived.OpenShut

import Derived.Deep.Slices

import Derived.Lib.SmallJoins

import Derived.ChangeArms

namespace Go.Proofs.Yteioefgckigbcaa

open Go.RowKit

open Go.Great Go.ChangeShapes Go.WideShapes Go.ChangeAt Go.Deep Go.Joins

instance : Inhabited Lc3 := ⟨⟨0, 0, 0⟩⟩
set_option maxRecDepth 100000 in
theorem el_lock16 {H : Type} {enc : TypeId × Value → H} {W : World} (fuel : Nat) (cs : List Value) (y : DataW H × List MemPlace) (hl : cs.length = 3) (h : DataW.trod enc Try.prog W 0 (fun _ => true) true fuel 50 cs = some y) : ∃ x : Lc3, cs = lcC x ∧ True := by
  have kI : Try.prog.cellsOf 3 = 1 := by kernel_rfl
  obtain ⟨xs, n, _, _, _, hxl, hg⟩ := DataW.trod_struct Try.underlying50 h
  match cs, hl, xs, hxl with
  | [v0, v1, v2], _, [y0, y1, y2], _ =>
    have g0 : DataW.trod enc Try.prog W 0 (fun _ => true) true n 3 [v0] = some y0 := by simpa [kI] using hg 0 _ rfl
    have g1 : DataW.trod enc Try.prog W 0 (fun _ => true) true n 3 [v1] = some y1 := by simpa [kI] using hg 1 _ rfl
    have g2 : DataW.trod enc Try.prog W 0 (fun _ => true) true n 3 [v2] = some y2 := by simpa [kI] using hg 2 _ rfl
    obtain ⟨a0, e0, _, _⟩ := DataW.trod_int Try.underlying3 g0
    obtain ⟨a1, e1, _, _⟩ := DataW.trod_int Try.underlying3 g1
    obtain ⟨a2, e2, _, _⟩ := DataW.trod_int Try.underlying3 g2
    simp at e0 e1 e2
    subst e0 e1 e2
    exact ⟨⟨a0, a1, a2⟩, rfl, trivial⟩
set_option maxRecDepth 100000 in
theorem locks_open {H : Type} {enc : TypeId × Value → H} {W : World} {r : Reach} {b0 : Nat} {v : Value} {d : DataW H} {p : List MemPlace} (hv : Value.okWide Try.prog W r b0 32 v)
    (h : DataW.Trod enc Try.prog W 0 (fun _ => true) true 32 v d p) : ∃ (A : Option Addr) (n c : Nat) (l : List Lc3), v = .slice A n c ∧ SlO lcC 3 W A n c l ∧ n ≤ c := by
  obtain ⟨A, n, c, rfl⟩ := okWide_slice Try.underlying32 hv
  obtain ⟨fuel, hf⟩ := h
  obtain ⟨A', c', l, e, hs, hc, _⟩ := slo_open13 (v := .slice A n c) (f := lcC) (k := 3) (by decide) (fun _ => rfl) Try.underlying32 (by kernel_rfl) el_lock16 (by simpa [Value.cells] using hf)
  injection e with e1 e2 e3
  subst e1 e2 e3
  exact ⟨A, l.length, c, l, rfl, hs, hc⟩
set_option maxRecDepth 100000 in
theorem inter_open {H : Type} {enc : TypeId × Value → H} {W : World} {r : Reach} {b0 : Nat} {v : Value} {d : DataW H} {p : List MemPlace} (hv : Value.okWide Try.prog W r b0 34 v)
    (h : DataW.Trod enc Try.prog W 0 (fun _ => true) true 34 v d p) : ∃ (l : List Lc3) (A : Option Addr) (c : Nat) (next : Int), v = .agg #[.slice A l.length c, .int .i64 next] ∧ SlO lcC 3 W A l.length c l ∧ l.length ≤ c := by
  obtain ⟨v0, v1, y0, y1, n, rfl, _, _, h0, h1⟩ := open_agg2 Try.underlying34 (by kernel_rfl) (by kernel_rfl) hv h
  obtain ⟨A0, c0, l0, rfl, s0, hc0, _⟩ := slo_open13 (f := lcC) (k := 3) (by decide) (fun _ => rfl) Try.underlying32 (by kernel_rfl) el_lock16 h0
  obtain ⟨a1, e1, _, _⟩ := DataW.trod_int Try.underlying3 h1
  simp at e1
  subst e1
  exact ⟨l0, A0, c0, a1, rfl, s0, hc0⟩
def opC16 (o : Op4) : List Value := [.bool o.free, .int .i64 o.route, .int .i64 o.train, .int .i64 o.no]
def opA16 (o : Op4) : Array Value := #[.bool o.free, .int .i64 o.route, .int .i64 o.train, .int .i64 o.no]
instance : Inhabited Op4 := ⟨⟨false, 0, 0, 0⟩⟩
set_option maxRecDepth 100000 in
theorem el_op16 {H : Type} {enc : TypeId × Value → H} {W : World} (fuel : Nat) (cs : List Value) (y : DataW H × List MemPlace) (hl : cs.length = 4) (h : DataW.trod enc Try.prog W 0 (fun _ => true) true fuel 46 cs = some y) : ∃ x : Op4, cs = opC16 x ∧ True := by
  have kI : Try.prog.cellsOf 3 = 1 := by kernel_rfl
  have kB : Try.prog.cellsOf 4 = 1 := by kernel_rfl
  obtain ⟨xs, n, _, _, _, hxl, hg⟩ := DataW.trod_struct Try.underlying46 h
  match cs, hl, xs, hxl with
  | [v0, v1, v2, v3], _, [y0, y1, y2, y3], _ =>
    have g0 : DataW.trod enc Try.prog W 0 (fun _ => true) true n 4 [v0] = some y0 := by simpa [kB] using hg 0 _ rfl
    have g1 : DataW.trod enc Try.prog W 0 (fun _ => true) true n 3 [v1] = some y1 := by simpa [kI] using hg 1 _ rfl
    have g2 : DataW.trod enc Try.prog W 0 (fun _ => true) true n 3 [v2] = some y2 := by simpa [kI] using hg 2 _ rfl
    have g3 : DataW.trod enc Try.prog W 0 (fun _ => true) true n 3 [v3] = some y3 := by simpa [kI] using hg 3 _ rfl
    obtain ⟨a0, e0, _⟩ := DataW.trod_bool Try.underlying4 g0
    obtain ⟨a1, e1, _, _⟩ := DataW.trod_int Try.underlying3 g1
    obtain ⟨a2, e2, _, _⟩ := DataW.trod_int Try.underlying3 g2
    obtain ⟨a3, e3, _, _⟩ := DataW.trod_int Try.underlying3 g3
    simp at e0 e1 e2 e3
    subst e0 e1 e2 e3
    exact ⟨⟨a0, a1, a2, a3⟩, rfl, trivial⟩
set_option maxRecDepth 100000 in
theorem op_open16 {H : Type} {enc : TypeId × Value → H} {W : World} {r : Reach} {b0 : Nat} {v : Value} {d : DataW H} {p : List MemPlace} (hv : Value.okWide Try.prog W r b0 46 v)
    (h : DataW.Trod enc Try.prog W 0 (fun _ => true) true 46 v d p) : ∃ o : Op4, v = .agg (opA16 o) := by
  obtain ⟨cs, rfl, hsz⟩ := okWide_struct Try.underlying46 hv
  have hC : Try.prog.cellsOf 46 = 4 := by kernel_rfl
  obtain ⟨fuel, hf⟩ := h
  obtain ⟨cl⟩ := cs
  obtain ⟨s, e, _⟩ := el_op16 fuel cl _ (hsz.trans hC) (by simpa [Value.cells] using hf)
  exact ⟨s, by rw [e]; rfl⟩
set_option maxRecDepth 100000 in
theorem ops_open16 {H : Type} {enc : TypeId × Value → H} {W : World} {r : Reach} {b0 : Nat} {v : Value} {d : DataW H} {p : List MemPlace} (hv : Value.okWide Try.prog W r b0 28 v)
    (h : DataW.Trod enc Try.prog W 0 (fun _ => true) true 28 v d p) : ∃ (A : Option Addr) (n c : Nat) (l : List Op4), v = .slice A n c ∧ SlO opC16 4 W A n c l ∧ n ≤ c := by
  obtain ⟨A, n, c, rfl⟩ := okWide_slice Try.underlying28 hv
  obtain ⟨fuel, hf⟩ := h
  obtain ⟨A', c', l, e, hs, hc, _⟩ := slo_open13 (v := .slice A n c) (f := opC16) (k := 4) (by decide) (fun _ => rfl) Try.underlying28 (by kernel_rfl) el_op16 (by simpa [Value.cells] using hf)
  injection e with e1 e2 e3
  subst e1 e2 e3
  exact ⟨A, l.length, c, l, rfl, hs, hc⟩
end Go.Proofs.Yteioefgckigbcaa
