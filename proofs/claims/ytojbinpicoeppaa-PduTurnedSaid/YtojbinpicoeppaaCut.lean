/-
  A slice of a slice, where an element is one cell: its run as an equation; what it holds.
-/
import Derived.Test.YtojbinpicoeppaaMem
import Derived.ChangeKeysEq
namespace Go.Proofs.Ytojbinpicoeppaa
open Go.RowKit

theorem cut_from {P : Program} (t e : TypeId) (h : P.underlying t = some (.slice e)) (_he : P.elem t = e) (hs : (P.info? e).map (·.size) = some 1) (A : Option Addr) (n c p : Nat) (hp : p ≤ n) (w : World) :
    (Instr.sliceAt t (.slice A n c) (some (.int .i64 (p : Nat))) none none).run P w = .ok (.slice (if c = p then A else A.map (·.add (p * 1))) (n - p) (c - p)) w := by
  have e1 : (sizeOf e).run P w = .ok 1 w := by
    cases hi : P.info? e with
    | none => rw [hi] at hs; cases hs
    | some i =>
      rw [hi] at hs
      simp only [Option.map_some, Option.some.injEq] at hs
      simp [sizeOf, run_typeInfo _ hi, hs]
  have h0 : (0 : Int) ≤ (p : Nat) := by omega
  have h1 : ((p : Nat) : Int) ≤ (n : Nat) := by omega
  simp [Instr.sliceAt, Instr.slice, run_underlying h, Instr.sliceBounds, run_sliceBound, h0, h1, e1]
theorem cut_to {P : Program} (t e : TypeId) (h : P.underlying t = some (.slice e)) (_he : P.elem t = e) (hs : (P.info? e).map (·.size) = some 1) (A : Option Addr) (n c p : Nat) (hp : p ≤ c) (w : World) :
    (Instr.sliceAt t (.slice A n c) none (some (.int .i64 (p : Nat))) none).run P w = .ok (.slice (if c = 0 then A else A.map (·.add (0 * 1))) p c) w := by
  have e1 : (sizeOf e).run P w = .ok 1 w := by
    cases hi : P.info? e with
    | none => rw [hi] at hs; cases hs
    | some i =>
      rw [hi] at hs
      simp only [Option.map_some, Option.some.injEq] at hs
      simp [sizeOf, run_typeInfo _ hi, hs]
  have h0 : (0 : Int) ≤ (p : Nat) := by omega
  have h1 : ((p : Nat) : Int) ≤ (c : Nat) := by omega
  simp [Instr.sliceAt, Instr.slice, run_underlying h, Instr.sliceBounds, run_sliceBound, h0, h1, e1]

/-- What stands from place p on. -/
theorem Sl.from_ {w : World} {A : Option Addr} {n c : Nat} {vs : List Value} (h : Sl w 1 A n c vs) (hc : n ≤ c) {p : Nat} (hp : p ≤ n) : Sl w 1 (if c = p then A else A.map (·.add (p * 1))) (n - p) (c - p) (vs.drop p) := by
  have hl : vs.length = n := by have := h.1; omega
  refine ⟨by rw [List.length_drop]; omega, fun e => ?_, fun ad ha j u hu => ?_⟩
  · cases A with
    | none => have := h.2.1 rfl; omega
    | some a =>
      rw [Option.map_some] at e
      split at e <;> cases e
  · have hj : j < n - p := by
      have := (List.getElem?_eq_some_iff.1 hu).1
      rw [List.length_drop] at this
      omega
    rw [List.getElem?_drop] at hu
    rw [if_neg (by omega)] at ha
    cases A with
    | none => cases ha
    | some a =>
      rw [Option.map_some] at ha
      injection ha with ha
      subst ha
      have h0 := h.2.2 a rfl (p + j) u hu
      have e : (a.add (p * 1)).add j = a.add (p + j) := by
        unfold Addr.add
        by_cases h1 : p = 0
        · subst h1; simp
        · by_cases h2 : j = 0
          · subst h2; simp [h1]
          · simp [h1, h2, Nat.add_assoc]
      rw [e]
      exact h0
/-- What stands ahead of place p. -/
theorem Sl.to_ {w : World} {A : Option Addr} {n c : Nat} {vs : List Value} (h : Sl w 1 A n c vs) {p : Nat} (hp : p ≤ n) : Sl w 1 (if c = 0 then A else A.map (·.add (0 * 1))) p c (vs.take p) := by
  have hl : vs.length = n := by have := h.1; omega
  refine ⟨by rw [List.length_take]; omega, fun e => ?_, fun ad ha j u hu => ?_⟩
  · cases A with
    | none => have := h.2.1 rfl; omega
    | some a =>
      rw [Option.map_some] at e
      split at e <;> cases e
  · have hj : j < p := by
      have := (List.getElem?_eq_some_iff.1 hu).1
      rw [List.length_take] at this
      omega
    rw [List.getElem?_take_of_lt hj] at hu
    cases A with
    | none => split at ha <;> cases ha
    | some a =>
      rw [Option.map_some] at ha
      have e : (a.add (0 * 1)) = a := by unfold Addr.add; simp
      rw [e] at ha
      have ha' : ad = a := by split at ha <;> (injection ha with ha; exact ha.symm)
      subst ha'
      exact h.2.2 ad rfl j u hu
/-- Its address lies in the block of what it was cut from. -/
theorem from_block {A : Option Addr} {c p : Nat} : ∀ a', (if c = p then A else A.map (·.add (p * 1))) = some a' → ∃ a, A = some a ∧ a'.block = a.block := by
  intro a' h
  cases A with
  | none => split at h <;> cases h
  | some a =>
    refine ⟨a, rfl, ?_⟩
    rw [Option.map_some] at h
    split at h <;> (injection h with h; rw [← h])
    unfold Addr.add
    split <;> rfl
end Go.Proofs.Ytojbinpicoeppaa
