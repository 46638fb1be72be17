/-
  A position that came in.
-/
import Derived.Test.YtdkfphjcdcjbpaaOpenTp

import Derived.Test.YtdkfphjcdcjbpaaPlEq

import Derived.ProofKit

import Derived.OpenShut

import Derived.Deep.Slices

import Derived.Lib.SmallJoins

import Derived.ChangeArms

namespace Go.Proofs.Ytdkfphjcdcjbpaa

open Go.RowKit

open Go.Great Go.ChangeShapes Go.WideShapes Go.ChangeAt Go.Deep Go.Joins
set_option maxRecDepth 100000 in
theorem steps_open {H : Type} {enc : TypeId × Value → H} {W : World} {r : Reach} {b0 : Nat} {v : Value} {d : DataW H} {p : List MemPlace} (hv : Value.okWide Try.prog W r b0 34 v)
    (h : DataW.Trod enc Try.prog W 0 (fun _ => true) true 34 v d p) : ∃ (A : Option Addr) (n c : Nat) (l : List St3), v = .slice A n c ∧ SlO stC 2 W A n c l ∧ n ≤ c := by
  obtain ⟨A, n, c, rfl⟩ := okWide_slice Try.underlying34 hv
  obtain ⟨fuel, hf⟩ := h
  obtain ⟨A', c', l, e, hs, hc, _⟩ := slo_open13 (v := .slice A n c) (f := stC) (k := 2) (by decide) (fun _ => rfl) Try.underlying34 (by kernel_rfl) el_step13 (by simpa [Value.cells] using hf)
  injection e with e1 e2 e3
  subst e1 e2 e3
  exact ⟨A, l.length, c, l, rfl, hs, hc⟩
end Go.Proofs.Ytdkfphjcdcjbpaa
