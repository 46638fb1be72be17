/-
  Rounding to a double: a rung for each exact value, rising with it; what a double stands for; the order of two doubles as the order of two integers.
-/
import Ieee.Arith
import Ieee.Word
namespace Go.Proofs.Ytidokfbjfdkfdaa.Fl
open Ieee

/-- n / 2^d, to the nearest, between two the even one. -/
def E (n d : Nat) : Nat := n / 2 ^ d + (if 2 ^ d < 2 * (n % 2 ^ d) ∨ (2 ^ d = 2 * (n % 2 ^ d) ∧ n / 2 ^ d % 2 = 1) then 1 else 0)

theorem E_ge (n d : Nat) : n / 2 ^ d ≤ E n d := Nat.le_add_right _ _
theorem E_le (n d : Nat) : E n d ≤ n / 2 ^ d + 1 := by unfold E; split <;> omega
theorem E_mono {n1 n2 : Nat} (h : n1 ≤ n2) (d : Nat) : E n1 d ≤ E n2 d := by
  have hg : 0 < 2 ^ d := Nat.two_pow_pos d
  have h1 := Nat.div_add_mod n1 (2 ^ d)
  have h2 := Nat.div_add_mod n2 (2 ^ d)
  have hq : n1 / 2 ^ d ≤ n2 / 2 ^ d := Nat.div_le_div_right h
  rcases Nat.lt_or_eq_of_le hq with hlt | heq
  · exact Nat.le_trans (E_le _ _) (Nat.le_trans hlt (E_ge _ _))
  · unfold E
    rw [heq] at h1 ⊢
    generalize 2 ^ d = g at *
    generalize n2 / g = q at *
    generalize g * q = p at *
    have hr : n1 % g ≤ n2 % g := by omega
    generalize n1 % g = r1 at *
    generalize n2 % g = r2 at *
    split
    · rw [if_pos (by omega)]; omega
    · omega
theorem E_scale (n d j : Nat) : E (n * 2 ^ j) (d + j) = E n d := by
  have hj : 0 < 2 ^ j := Nat.two_pow_pos j
  unfold E
  rw [Nat.pow_add, Nat.mul_div_mul_right _ _ hj, Nat.mul_mod_mul_right]
  have a1 : (2 ^ d * 2 ^ j < 2 * (n % 2 ^ d * 2 ^ j)) ↔ (2 ^ d < 2 * (n % 2 ^ d)) := by
    rw [← Nat.mul_assoc]; exact Nat.mul_lt_mul_right hj
  have a2 : (2 ^ d * 2 ^ j = 2 * (n % 2 ^ d * 2 ^ j)) ↔ (2 ^ d = 2 * (n % 2 ^ d)) := by
    rw [← Nat.mul_assoc]; exact ⟨fun h => Nat.eq_of_mul_eq_mul_right hj h, fun h => congrArg (· * 2 ^ j) h⟩
  simp only [a1, a2]
theorem E_whole (r d : Nat) : E (r * 2 ^ d) d = r := by
  have hg : 0 < 2 ^ d := Nat.two_pow_pos d
  unfold E
  rw [Nat.mul_div_cancel _ hg, Nat.mul_mod_left, if_neg (by omega)]; rfl

theorem cut_even (neg : Bool) (n drop : Nat) : Toward.even.cut neg n drop = E n drop := by
  have key : ∀ g, ((n / g + (decide (g < 2 * (n % g)) || (g == 2 * (n % g) && n / g % 2 == 1)).toNat : Nat)) = n / g + (if g < 2 * (n % g) ∨ (g = 2 * (n % g) ∧ n / g % 2 = 1) then 1 else 0) := by
    intro g
    congr 1
    by_cases h1 : g < 2 * (n % g)
    · simp [h1]
    · by_cases h2 : g = 2 * (n % g)
      · by_cases h3 : n / g % 2 = 1
        · rw [if_pos (.inr ⟨h2, h3⟩)]
          have h2' : (g == 2 * (n % g)) = true := by rw [beq_iff_eq]; exact h2
          rw [decide_eq_false h1, h2', h3]; rfl
        · rw [if_neg (by omega)]
          have h3' : (n / g % 2 == 1) = false := by rw [beq_eq_false_iff_ne]; exact h3
          rw [decide_eq_false h1, h3', Bool.and_false]; rfl
      · rw [if_neg (by omega)]
        have h2' : (g == 2 * (n % g)) = false := by rw [beq_eq_false_iff_ne]; exact h2
        rw [decide_eq_false h1, h2', Bool.false_and]; rfl
  unfold Toward.cut
  simp only
  rw [Nat.one_shiftLeft, key, E]
  by_cases h : drop ≤ n.log2 + 2
  · rw [Nat.min_eq_left h]
  · rw [Nat.min_eq_right (by omega)]
    have h1 : n < 2 ^ (n.log2 + 1) := Nat.lt_log2_self
    have h2 : 2 ^ (n.log2 + 2) = 2 * 2 ^ (n.log2 + 1) := by rw [Nat.pow_succ, Nat.mul_comm]
    have h3 : 2 ^ (n.log2 + 2) ≤ 2 ^ drop := Nat.pow_le_pow_right (by omega) (by omega)
    have big : ∀ g, 2 * n < g → n / g + (if g < 2 * (n % g) ∨ (g = 2 * (n % g) ∧ n / g % 2 = 1) then 1 else 0) = 0 := by
      intro g hg
      rw [Nat.div_eq_of_lt (by omega), Nat.mod_eq_of_lt (by omega), if_neg (by omega)]
    rw [big _ (by omega), big _ (by omega)]

/-- How many digits of V / 2^k (in units of the least double) fall away. -/
def top (V k : Nat) : Nat := max (V.log2 - 52) k
/-- The rung nearest to V / 2^k. -/
def N (V k : Nat) : Nat := min ((top V k - k) * 4503599627370496 + E V (top V k)) 9218868437227405312

theorem N_le (V k : Nat) : N V k ≤ 9218868437227405312 := Nat.min_le_right _ _
theorem N_zero (k : Nat) : N 0 k = 0 := by simp [N, top, E]

theorem log2_le_log2 {a b : Nat} (h : a ≤ b) : a.log2 ≤ b.log2 := by
  by_cases ha : a = 0
  · subst ha; simp
  · exact (Nat.le_log2 (by omega)).2 (Nat.le_trans (Nat.log2_self_le ha) h)
theorem log2_scale {a : Nat} (ha : a ≠ 0) (j : Nat) : (a * 2 ^ j).log2 = a.log2 + j := by
  have hj : 0 < 2 ^ j := Nat.two_pow_pos j
  have hne : a * 2 ^ j ≠ 0 := Nat.mul_ne_zero ha (by omega)
  refine Nat.le_antisymm ?_ ?_
  · have h : a * 2 ^ j < 2 ^ (a.log2 + j + 1) := by
      rw [show a.log2 + j + 1 = (a.log2 + 1) + j by omega, Nat.pow_add]
      exact (Nat.mul_lt_mul_right hj).2 Nat.lt_log2_self
    have := (Nat.log2_lt hne).2 h
    omega
  · rw [Nat.le_log2 hne, Nat.pow_add]
    exact Nat.mul_le_mul_right _ (Nat.log2_self_le ha)

theorem min_mono {a b : Nat} (h : a ≤ b) (c : Nat) : min a c ≤ min b c := by omega
theorem N_mono {V1 V2 : Nat} (h : V1 ≤ V2) (k : Nat) : N V1 k ≤ N V2 k := by
  have hl := log2_le_log2 h
  have ht : top V1 k ≤ top V2 k := by unfold top; omega
  unfold N
  refine min_mono ?_ _
  rcases Nat.lt_or_eq_of_le ht with hlt | heq
  · have hk : k ≤ top V1 k := Nat.le_max_right _ _
    have h2 : top V2 k = V2.log2 - 52 := by unfold top at *; omega
    have h2' : 52 ≤ V2.log2 := by unfold top at *; omega
    have hne : V2 ≠ 0 := by intro e; subst e; simp at h2'
    have e2 : 4503599627370496 ≤ E V2 (top V2 k) := by
      refine Nat.le_trans ?_ (E_ge _ _)
      rw [Nat.le_div_iff_mul_le (Nat.two_pow_pos _), show (4503599627370496 : Nat) = 2 ^ 52 from rfl, ← Nat.pow_add, h2, show 52 + (V2.log2 - 52) = V2.log2 by omega]
      exact Nat.log2_self_le hne
    have e1 : E V1 (top V1 k) ≤ 9007199254740992 := by
      refine Nat.le_trans (E_le _ _) ?_
      have hlt1 : V1 / 2 ^ top V1 k < 9007199254740992 := by
        rw [Nat.div_lt_iff_lt_mul (Nat.two_pow_pos _), show (9007199254740992 : Nat) = 2 ^ 53 from rfl, ← Nat.pow_add]
        refine Nat.lt_of_lt_of_le Nat.lt_log2_self (Nat.pow_le_pow_right (by omega) ?_)
        unfold top; omega
      omega
    generalize E V1 (top V1 k) = x1 at *
    generalize E V2 (top V2 k) = x2 at *
    generalize top V1 k = t1 at *
    generalize top V2 k = t2 at *
    omega
  · rw [← heq]
    exact Nat.add_le_add_left (E_mono h (top V1 k)) _

theorem N_scale (V k j : Nat) : N (V * 2 ^ j) (k + j) = N V k := by
  by_cases hV : V = 0
  · subst hV; rw [Nat.zero_mul, N_zero, N_zero]
  · have ht : top (V * 2 ^ j) (k + j) = top V k + j := by
      unfold top; rw [log2_scale hV]
      by_cases h : 52 ≤ V.log2
      · omega
      · omega
    unfold N
    rw [ht, E_scale, show top V k + j - (k + j) = top V k - k by omega]

/-- What a rung stands for, in units of the least double. -/
def mval (r : Nat) : Nat := if r < 4503599627370496 then r else (4503599627370496 + r % 4503599627370496) * 2 ^ (r / 4503599627370496 - 1)

theorem N_exact (r : Nat) (hr : r ≤ 9218868437227405312) (k : Nat) : N (mval r * 2 ^ k) k = r := by
  have h0 := N_scale (mval r) 0 k
  rw [Nat.zero_add] at h0
  rw [h0]
  unfold mval
  by_cases h : r < 4503599627370496
  · rw [if_pos h]
    have hl : r.log2 - 52 = 0 := by
      by_cases hz : r = 0
      · subst hz; simp
      · have := (Nat.log2_lt (n := r) (k := 52) hz).2 (by omega)
        omega
    have ht : top r 0 = 0 := by unfold top; omega
    unfold N
    rw [ht]
    have := E_whole r 0
    rw [Nat.pow_zero, Nat.mul_one] at this
    rw [this]
    omega
  · rw [if_neg h]
    obtain ⟨e, he⟩ : ∃ e, r / 4503599627370496 = e + 1 := ⟨r / 4503599627370496 - 1, by omega⟩
    have hm := Nat.div_add_mod r 4503599627370496
    have hf : r % 4503599627370496 < 4503599627370496 := Nat.mod_lt _ (by omega)
    rw [he] at hm ⊢
    rw [show e + 1 - 1 = e by omega]
    generalize r % 4503599627370496 = f at *
    have hl : ((4503599627370496 + f) * 2 ^ e).log2 = 52 + e := by
      rw [log2_scale (by omega)]
      congr 1
      have h1 := (Nat.log2_lt (n := 4503599627370496 + f) (k := 53) (by omega)).2 (by omega)
      have h2 := (Nat.le_log2 (n := 4503599627370496 + f) (k := 52) (by omega)).2 (by omega)
      omega
    have ht : top ((4503599627370496 + f) * 2 ^ e) 0 = e := by unfold top; omega
    unfold N
    rw [ht, E_whole]
    omega

theorem mval_lt {r1 r2 : Nat} (h2 : r2 ≤ 9218868437227405312) (h : r1 < r2) : mval r1 < mval r2 := by
  refine Nat.lt_of_not_le fun hle => ?_
  have := N_mono hle 0
  have e1 := N_exact r1 (by omega) 0
  have e2 := N_exact r2 h2 0
  rw [Nat.pow_zero, Nat.mul_one] at e1 e2
  omega
theorem mval_zero : mval 0 = 0 := rfl

/-- A whole number of few digits is a double. -/
theorem mval_N (m e : Nat) (hm : m < 9007199254740992) (he : e ≤ 1900) : mval (N (m * 2 ^ e) 0) = m * 2 ^ e ∧ N (m * 2 ^ e) 0 < 9218868437227405312 := by
  by_cases hz : m = 0
  · subst hz
    rw [Nat.zero_mul, N_zero]; exact ⟨rfl, by omega⟩
  have hl : (m * 2 ^ e).log2 = m.log2 + e := log2_scale hz e
  have hm1 := (Nat.log2_lt (n := m) (k := 53) hz).2 (by omega)
  obtain ⟨d, hd⟩ : ∃ d, m.log2 + e - 52 = d := ⟨_, rfl⟩
  have hde : d ≤ e := by omega
  have ht : top (m * 2 ^ e) 0 = d := by unfold top; omega
  have hE : E (m * 2 ^ e) d = m * 2 ^ (e - d) := by
    rw [show m * 2 ^ e = m * 2 ^ (e - d) * 2 ^ d by rw [Nat.mul_assoc, ← Nat.pow_add, show e - d + d = e by omega], E_whole]
  have hlt : m * 2 ^ (e - d) < 9007199254740992 := by
    have h3 : (m * 2 ^ (e - d)).log2 < 53 := by rw [log2_scale hz]; omega
    exact (Nat.log2_lt (Nat.mul_ne_zero hz (by have := Nat.two_pow_pos (e - d); omega))).1 h3
  have hback : m * 2 ^ e = m * 2 ^ (e - d) * 2 ^ d := by rw [Nat.mul_assoc, ← Nat.pow_add, show e - d + d = e by omega]
  have hge : d ≠ 0 → 4503599627370496 ≤ m * 2 ^ (e - d) := by
    intro h0
    have h3 : 52 ≤ (m * 2 ^ (e - d)).log2 := by rw [log2_scale hz]; omega
    exact (Nat.le_log2 (Nat.mul_ne_zero hz (by have := Nat.two_pow_pos (e - d); omega))).1 h3
  unfold N
  rw [ht, hE, hback]
  clear hE hback hl hm1 ht
  obtain ⟨X, hX⟩ : ∃ X, m * 2 ^ (e - d) = X := ⟨_, rfl⟩
  rw [hX] at hlt hge ⊢
  clear hX
  have hd9 : d ≤ 1900 := by omega
  clear hd hde he hm hz
  rw [Nat.min_eq_left (by omega)]
  refine ⟨?_, by omega⟩
  unfold mval
  by_cases h0 : d = 0
  · subst h0
    rw [Nat.pow_zero, Nat.mul_one, show (0 - 0) * 4503599627370496 + X = X by omega]
    by_cases hX : X < 4503599627370496
    · rw [if_pos hX]
    · rw [if_neg hX, show X / 4503599627370496 = 1 by omega, show X % 4503599627370496 = X - 4503599627370496 by omega, Nat.sub_self, Nat.pow_zero, Nat.mul_one]
      omega
  · have hge := hge h0
    rw [if_neg (by omega), show ((d - 0) * 4503599627370496 + X) / 4503599627370496 = d + 1 by omega, show ((d - 0) * 4503599627370496 + X) % 4503599627370496 = X - 4503599627370496 by omega, show d + 1 - 1 = d by omega, show 4503599627370496 + (X - 4503599627370496) = X by omega]

end Go.Proofs.Ytidokfbjfdkfdaa.Fl
