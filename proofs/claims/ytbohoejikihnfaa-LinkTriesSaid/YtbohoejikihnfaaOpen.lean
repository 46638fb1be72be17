/-
  What an argument that came in reads as: words of our own for slices.
-/
import Derived.Test.YtbohoejikihnfaaMem

import Derived.ProofKit

import Derived.OpenShut

import Derived.Deep.Slices

import Derived.Lib.SmallJoins

namespace Go.Proofs.Ytbohoejikihnfaa

open Go.ChangeShapes Go.WideShapes Go.ChangeAt Go.RowKit Go.Deep

/-- A slice that came in, of n integers of kind k: its elements are zs. -/
def InInts (k : IntKind) (w : World) (A : Option Addr) (n : Nat) (zs : List Int) : Prop :=
  zs.length = n ∧ n ≤ maxLen ∧ (0 < n → ∃ ad : Addr, A = some ad ∧ ∀ i, i < n → w.cell? (ad.add i) = some (.int k (zs.getD i 0))) ∧ ∀ z ∈ zs, (Lit.int k z).wf = true
theorem inInts_nil (k : IntKind) (w : World) (A : Option Addr) : InInts k w A 0 [] := ⟨rfl, by unfold maxLen; omega, fun h => absurd h (by omega), fun z hz => by simp at hz⟩
theorem inInts_of {k : IntKind} {w : World} {x : Addr} {n c : Nat} {zs : List Int} (hl : n ≤ c) (hm : c ≤ maxLen) (hz : zs.length = c)
    (hcell : ∀ i, i < zs.length → w.cell? (x.add i) = some (.int k (zs.getD i 0))) (hwz : ∀ z ∈ zs, (Lit.int k z).wf = true) : InInts k w (some x) n (zs.take n) := by
  refine ⟨by simp; omega, by omega, fun _ => ⟨x, rfl, fun i hi => ?_⟩, fun z h => hwz z (List.mem_of_mem_take h)⟩
  rw [hcell i (by omega)]
  simp [List.getD_eq_getElem?_getD, hi]

theorem ints_low {k : IntKind} {w wr : World} {A : Option Addr} {n : Nat} {zs : List Int} (h : InInts k w A n zs) (hb : Below w.heap.size w wr) {j : Nat} (hj : j < n) :
    ∃ b off, A = some ⟨b, off, none⟩ ∧ wr.cell? ⟨b, off + j, none⟩ = some (.int k (zs.getD j 0)) := by
  obtain ⟨⟨b, off, spot⟩, rfl, hc⟩ := h.2.2.1 (by omega)
  have hspot : spot = none := by simpa [Addr.add] using World.cell?_spot (hc 0 (by omega))
  subst hspot
  refine ⟨b, off, rfl, ?_⟩
  have h0 := hc j hj
  rw [Go.WideShapes.add_plain] at h0
  rw [hb.cell (cell_block h0)]
  exact h0

end Go.Proofs.Ytbohoejikihnfaa
