/-
  Plain facts on lists of bits and the numbers that they are: no program stands in this text.
-/
import Derived.Below
import Derived.WalkKit
namespace Go.Proofs.Ythaonojcfmnjpaa.BitsM

/-- The number of some bits, the first the highest. -/
def num (l : List Bool) : Nat := l.foldl (fun a b => 2 * a + b.toNat) 0

theorem num_nil : num [] = 0 := rfl
theorem num_snoc (l : List Bool) (b : Bool) : num (l ++ [b]) = 2 * num l + b.toNat := by simp [num, List.foldl_append]

theorem list_snoc_ind {p : List Bool → Prop} (h0 : p []) (h1 : ∀ l b, p l → p (l ++ [b])) : ∀ l, p l := by
  intro l
  have : ∀ n, ∀ l : List Bool, l.length = n → p l := by
    intro n
    induction n with
    | zero => intro l hl; have : l = [] := List.eq_nil_of_length_eq_zero hl; subst this; exact h0
    | succ n ih =>
      intro l hl
      have hne : l ≠ [] := by intro e; subst e; simp at hl
      rw [← List.dropLast_concat_getLast hne]
      exact h1 _ _ (ih _ (by simp; omega))
  exact this _ l rfl

theorem num_lt (l : List Bool) : num l < 2 ^ l.length := by
  refine list_snoc_ind (p := fun l => num l < 2 ^ l.length) (by simp [num]) (fun l b ih => ?_) l
  rw [num_snoc, List.length_append, List.length_singleton, Nat.pow_succ]
  cases b <;> simp <;> omega

theorem num_testBit (l : List Bool) : ∀ j, (num l).testBit j = (decide (j < l.length) && l.getD (l.length - 1 - j) false) := by
  refine list_snoc_ind (p := fun l => ∀ j, (num l).testBit j = (decide (j < l.length) && l.getD (l.length - 1 - j) false)) (by intro j; simp [num]) (fun l b ih j => ?_) l
  rw [num_snoc]
  cases j with
  | zero =>
    rw [Nat.testBit_zero]
    cases b <;> simp [Nat.add_mod]
  | succ j =>
    rw [Nat.testBit_succ]
    have e : (2 * num l + b.toNat) / 2 = num l := by cases b <;> simp <;> omega
    rw [e, ih j]
    simp only [List.length_append, List.length_singleton]
    by_cases hj : j < l.length
    · have h1 : l.length + 1 - 1 - (j + 1) = l.length - 1 - j := by omega
      rw [h1]
      have h2 : l.length - 1 - j < l.length := by omega
      simp [hj, List.getD_eq_getElem?_getD, List.getElem?_append_left h2]
    · simp [hj]

theorem num_eq_of {l : List Bool} {n : Nat} (hn : n < 2 ^ l.length) (h : ∀ j, j < l.length → n.testBit j = l.getD (l.length - 1 - j) false) : num l = n := by
  apply Nat.eq_of_testBit_eq
  intro j
  rw [num_testBit]
  by_cases hj : j < l.length
  · simp [hj, h j hj]
  · have : n.testBit j = false := Nat.testBit_lt_two_pow (Nat.lt_of_lt_of_le hn (Nat.pow_le_pow_right (by omega) (by omega)))
    simp [hj, this]

/-- The first j of the w low bits of n, the highest first. -/
def wbits (n w j : Nat) : List Bool := (List.range j).map fun k => n.testBit (w - 1 - k)
theorem wbits_zero (n w : Nat) : wbits n w 0 = [] := rfl
theorem wbits_length (n w j : Nat) : (wbits n w j).length = j := by simp [wbits]
theorem wbits_succ (n w j : Nat) : wbits n w (j + 1) = wbits n w j ++ [n.testBit (w - 1 - j)] := by simp [wbits, List.range_succ]
theorem wbits_getD (n w j i : Nat) (h : i < j) : (wbits n w j).getD i false = n.testBit (w - 1 - i) := by
  simp [wbits, List.getD_eq_getElem?_getD, h]

theorem num_wbits (n w : Nat) (h : n < 2 ^ w) : num (wbits n w w) = n := by
  apply num_eq_of
  · simpa [wbits_length] using h
  · intro j hj
    rw [wbits_length] at hj ⊢
    rw [wbits_getD _ _ _ _ (by omega)]
    congr 1
    omega

theorem num_append (l m : List Bool) : num (l ++ m) = num l * 2 ^ m.length + num m := by
  refine list_snoc_ind (p := fun m => num (l ++ m) = num l * 2 ^ m.length + num m) (by simp [num]) (fun m b ih => ?_) m
  rw [← List.append_assoc, num_snoc, ih, num_snoc, List.length_append, List.length_singleton, Nat.pow_succ]
  rw [Nat.mul_add, ← Nat.mul_assoc, Nat.mul_comm 2 (num l), Nat.mul_assoc (num l) 2, Nat.mul_comm 2 (2 ^ m.length), Nat.add_assoc]

/-- Byte i of a writer that has these bits: noughts behind the end. -/
def byteAt (bs : List Bool) (i : Nat) : Nat := num ((List.range 8).map fun k => bs.getD (8 * i + k) false)
theorem byteAt_lt (bs : List Bool) (i : Nat) : byteAt bs i < 256 := by
  have := num_lt ((List.range 8).map fun k => bs.getD (8 * i + k) false)
  simpa [byteAt] using this
theorem byteAt_testBit (bs : List Bool) (i j : Nat) : (byteAt bs i).testBit j = (decide (j < 8) && bs.getD (8 * i + (7 - j)) false) := by
  unfold byteAt
  rw [num_testBit]
  by_cases hj : j < 8
  · have h2 : 8 - 1 - j < 8 := by omega
    simp only [List.length_map, List.length_range, hj, decide_true, Bool.true_and]
    simp [List.getD_eq_getElem?_getD, h2]
  · simp [hj]
theorem byteAt_none (bs : List Bool) (i : Nat) (h : bs.length ≤ 8 * i) : byteAt bs i = 0 := by
  apply Nat.eq_of_testBit_eq
  intro j
  rw [byteAt_testBit]
  simp [List.getD_eq_getElem?_getD]
  intro _
  rw [List.getElem?_eq_none (by omega)]
  rfl
theorem byteAt_nil (i : Nat) : byteAt [] i = 0 := byteAt_none [] i (by simp)

theorem byteAt_snoc_other (bs : List Bool) (b : Bool) (i : Nat) (h : i ≠ bs.length / 8) : byteAt (bs ++ [b]) i = byteAt bs i := by
  apply Nat.eq_of_testBit_eq
  intro j
  rw [byteAt_testBit, byteAt_testBit]
  by_cases hj : j < 8
  · simp only [hj, decide_true, Bool.true_and, List.getD_eq_getElem?_getD]
    by_cases hl : 8 * i + (7 - j) < bs.length
    · rw [List.getElem?_append_left hl]
    · rw [List.getElem?_eq_none (by simp; omega), List.getElem?_eq_none (by omega)]
  · simp [hj]
theorem byteAt_snoc_same (bs : List Bool) (b : Bool) : byteAt (bs ++ [b]) (bs.length / 8) = byteAt bs (bs.length / 8) ||| (b.toNat <<< (7 - bs.length % 8)) := by
  apply Nat.eq_of_testBit_eq
  intro j
  rw [Nat.testBit_or, byteAt_testBit, byteAt_testBit, Nat.testBit_shiftLeft]
  by_cases hj : j < 8
  · simp only [hj, decide_true, Bool.true_and, List.getD_eq_getElem?_getD]
    by_cases he : j = 7 - bs.length % 8
    · subst he
      have e : 8 * (bs.length / 8) + (7 - (7 - bs.length % 8)) = bs.length := by omega
      rw [e]
      simp
      cases b <;> simp
    · by_cases hl : 8 * (bs.length / 8) + (7 - j) < bs.length
      · rw [List.getElem?_append_left hl]
        have hlt : ¬ (7 - bs.length % 8 ≤ j ∧ j - (7 - bs.length % 8) = 0) := by omega
        cases b
        · simp
        · have : (1 : Nat).testBit (j - (7 - bs.length % 8)) = decide (j - (7 - bs.length % 8) = 0) := by
            cases j - (7 - bs.length % 8) with
            | zero => simp
            | succ n => simp [Nat.testBit_succ]
          simp only [Bool.toNat_true, ge_iff_le]
          rw [this]
          by_cases h1 : 7 - bs.length % 8 ≤ j
          · have h2 : j - (7 - bs.length % 8) ≠ 0 := by omega
            simp [h2]
          · simp [h1]
      · rw [List.getElem?_eq_none (by simp; omega), List.getElem?_eq_none (by omega)]
        have h1 : ¬ 7 - bs.length % 8 ≤ j := by omega
        simp [h1]
  · have hb : b.toNat <<< (7 - bs.length % 8) < 256 := by
      have : b.toNat ≤ 1 := Bool.toNat_le b
      have h2 : (2 : Nat) ^ (7 - bs.length % 8) ≤ 2 ^ 7 := Nat.pow_le_pow_right (by omega) (by omega)
      rw [Nat.shiftLeft_eq]
      have := Nat.mul_le_mul this h2
      omega
    have : (b.toNat <<< (7 - bs.length % 8)).testBit j = false := Nat.testBit_lt_two_pow (Nat.lt_of_lt_of_le hb (by have := Nat.pow_le_pow_right (n := 2) (by omega) (show 8 ≤ j by omega); omega))
    rw [Nat.testBit_shiftLeft] at this
    rw [this]
    simp [hj]

end Go.Proofs.Ythaonojcfmnjpaa.BitsM
