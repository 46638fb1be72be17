/-
  A slice of doubles that came in.
-/
import Derived.Test.YtidokfbjfdkfdaaFlLists
import Derived.Test.YtidokfbjfdkfdaaOpen
import Derived.Deep.Slices
import Derived.ChangeArms
import Derived.Laws.Cover2
namespace Go.Proofs.Ytidokfbjfdkfdaa
open Go.ChangeShapes Go.WideShapes Go.ChangeAt Go.RowKit Go.Deep

theorem trod_float {H : Type} {enc : TypeId × Value → H} {P : Program} {w : World} {base fuel : Nat} {spare : Nat → Bool} {held : Bool} {t : TypeId} {cs : List Value} {x : DataW H × List MemPlace} {k : FloatKind} (ht : P.underlying t = some (.float k))
    (h : DataW.trod enc P w base spare held fuel t cs = some x) : ∃ n, cs = [.float k n] ∧ x = (.lit (.float k n), []) ∧ (Lit.float k n).wf = true := by
  cases fuel with
  | zero => simp [DataW.trod] at h
  | succ n =>
    unfold DataW.trod at h
    rw [ht] at h
    split at h <;> simp_all

theorem inFloats_of {H : Type} {enc : TypeId × Value → H} {W : World} {base : Nat} {spare : Nat → Bool} {held : Bool} {A : Option Addr} {n c : Nat} {d : DataW H} {p : List MemPlace}
    (h : DataW.Trod enc Try.prog W base spare held 31 (.slice A n c) d p) : ∃ l, SlF W A n c l := by
  obtain ⟨fuel, hf⟩ := h
  rcases open_slice1 Try.underlying31 (by kernel_rfl) hf with ⟨hcs, _⟩ | ⟨a, len, cap, m, k, V, D, Pl, hcs, _, hl, hm, hmm, _, hx⟩
  · simp [Value.cells] at hcs
    obtain ⟨rfl, rfl, rfl⟩ := hcs
    exact ⟨[], rfl, fun z hz => by simp at hz, sl_nil _ _⟩
  · simp [Value.cells] at hcs
    obtain ⟨rfl, rfl, rfl⟩ := hcs
    have hlm : n ≤ m := by rw [hmm]; split <;> omega
    have each : ∀ i, i < n → ∃ x : Nat, W.cell? (a.add i) = some (.float .f64 x) ∧ (Lit.float .f64 x).wf = true := by
      intro i hi
      obtain ⟨c0, t0⟩ := hx i (by omega)
      obtain ⟨x, e0, _, w0⟩ := trod_float Try.underlying22 t0
      simp at e0
      exact ⟨x, by rw [c0, e0], w0⟩
    obtain ⟨f, hf⟩ := choose_lt each
    refine ⟨(List.range n).map f, by simp, fun x hx => ?_, by rw [flts_length]; simp, (fun e => by cases e), fun ad ha j u hu => ?_⟩
    · simp only [List.mem_map, List.mem_range] at hx
      obtain ⟨i, hi, rfl⟩ := hx
      exact (hf i hi).2
    · injection ha with ha
      subst ha
      have hj : j < n := by
        have := (List.getElem?_eq_some_iff.1 hu).1
        rw [flts_length] at this
        simpa using this
      have e : (flts ((List.range n).map f))[j]? = some (.float .f64 (f j)) := by simp [flts, hj]
      rw [e] at hu
      injection hu with hu
      rw [← hu]
      exact (hf j hj).1

end Go.Proofs.Ytidokfbjfdkfdaa
