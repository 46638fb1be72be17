/-
  A double's word: its sign and its rung by bit operations; the word cut to a whole number.
-/
import Derived.Test.YtidokfbjfdkfdaaFlD
import Derived.Laws.BitsAllLaws
namespace Go.Proofs.Ytidokfbjfdkfdaa.Fl
open Go Ieee
attribute [local irreducible] N E mval top U

/-- The word of a sign and a rung. -/
def wordOf (s : Bool) (r : Nat) : Nat := r + (if s then 9223372036854775808 else 0)
theorem rung_wordOf (s : Bool) {r : Nat} (h : r < 9223372036854775808) : rung (wordOf s r) = r := by
  unfold rung wordOf; cases s <;> simp <;> omega
theorem neg_wordOf (s : Bool) {r : Nat} (h : r < 9223372036854775808) : neg (wordOf s r) = s := by
  unfold neg wordOf
  cases s
  · have : (r + 0) / 9223372036854775808 % 2 = 0 := by omega
    simp only [Bool.false_eq_true, if_false, this]; rfl
  · have : (r + 9223372036854775808) / 9223372036854775808 % 2 = 1 := by omega
    simp only [if_true, this]; rfl
theorem wordOf_lt (s : Bool) {r : Nat} (h : r < 9223372036854775808) : wordOf s r < 18446744073709551616 := by
  unfold wordOf; split <;> omega
theorem word_split {x : Nat} (h : x < 18446744073709551616) : wordOf (neg x) (rung x) = x := by
  unfold wordOf rung neg
  by_cases k : x / 9223372036854775808 = 1
  · rw [k]; simp; omega
  · have k0 : x / 9223372036854775808 = 0 := by omega
    rw [k0]; simp; omega
theorem sr_wordOf (s : Bool) {r : Nat} (h : r < 9223372036854775808) : sr (wordOf s r) = sgn s r := by
  rw [sr, rung_wordOf s h, neg_wordOf s h]

theorem clear63 {x : Nat} (h : x < 18446744073709551616) : bits .andNot .u64 (x : Int) 9223372036854775808 = ((rung x : Nat) : Int) := by
  have := u64_andNot_nat x 9223372036854775808 h (by omega)
  rw [show (18446744073709551615 - 9223372036854775808 : Nat) = 2 ^ 63 - 1 by decide, Nat.and_two_pow_sub_one_eq_mod] at this
  exact this
theorem sign63 {x : Nat} (h : x < 18446744073709551616) : bits .and .u64 (x : Int) 9223372036854775808 = (((if neg x then 9223372036854775808 else 0 : Nat)) : Int) := by
  have e := u64_and_nat x 9223372036854775808 h (by omega)
  have e2 : x &&& 9223372036854775808 = if neg x then 9223372036854775808 else 0 := by
    have hb : x.testBit 63 = neg x := by
      rw [Nat.testBit_eq_decide_div_mod_eq]; unfold neg
      rw [show (2 ^ 63 : Nat) = 9223372036854775808 by decide]
      rfl
    rw [show (9223372036854775808 : Nat) = 2 ^ 63 by decide]
    apply Nat.eq_of_testBit_eq
    intro i
    rw [Nat.testBit_and, Nat.testBit_two_pow]
    by_cases hi : 63 = i
    · subst hi
      rw [hb]
      cases neg x
      · rfl
      · rfl
    · cases neg x
      · simp [hi]
      · simp only [if_true, Nat.testBit_two_pow, decide_eq_false hi, Bool.and_false]
  rw [e2] at e
  exact e
theorem join63 (s : Bool) {r : Nat} (h : r < 9223372036854775808) : bits .or .u64 (r : Int) (((if s then 9223372036854775808 else 0 : Nat)) : Int) = ((wordOf s r : Nat) : Int) := by
  cases s
  · have e := u64_or_nat r 0 (by omega) (by omega)
    rw [Nat.or_zero] at e
    simpa [wordOf] using e
  · have e := u64_or_nat r 9223372036854775808 (by omega) (by omega)
    have e2 := Nat.two_pow_add_eq_or_of_lt (i := 63) (b := r) h 1
    rw [Nat.or_comm] at e
    rw [show (2 ^ 63 * 1 : Nat) = 9223372036854775808 by decide] at e2
    rw [← e2] at e
    simp only [if_true, wordOf]
    rw [Nat.add_comm r]
    exact e
theorem negFloat_eq {x : Nat} (h : x < 18446744073709551616) : Op.negFloat .f64 x = wordOf (!neg x) (rung x) := by
  have e : Op.negFloat .f64 x = x ^^^ 2 ^ 63 := rfl
  rw [e]
  have hr := rung_lt x
  have hx := word_split h
  apply Nat.eq_of_testBit_eq
  intro i
  rw [Nat.testBit_xor, Nat.testBit_two_pow]
  have t1 : ∀ b, (wordOf b (rung x)).testBit i = if i = 63 then b else if i < 63 then x.testBit i else false := by
    intro b
    have tl : i < 63 → (rung x).testBit i = x.testBit i := by
      intro hi; unfold rung
      rw [show (9223372036854775808 : Nat) = 2 ^ 63 by decide, Nat.testBit_mod_two_pow]; simp [hi]
    have th : 63 ≤ i → (rung x).testBit i = false := fun hi => Nat.testBit_lt_two_pow (Nat.lt_of_lt_of_le (show rung x < 2 ^ 63 from hr) (Nat.pow_le_pow_right (by decide) hi))
    cases b
    · show (rung x + 0).testBit i = _
      rw [Nat.add_zero]
      by_cases h1 : i < 63
      · rw [tl h1, if_neg (by omega), if_pos h1]
      · rw [th (by omega)]; split <;> simp [h1]
    · show (rung x + 9223372036854775808).testBit i = _
      have e2 := Nat.two_pow_add_eq_or_of_lt (i := 63) (b := rung x) hr 1
      rw [Nat.add_comm, show (9223372036854775808 : Nat) = 2 ^ 63 * 1 by decide, e2, Nat.testBit_or, Nat.mul_one, Nat.testBit_two_pow]
      by_cases h1 : i < 63
      · rw [tl h1, if_neg (by omega), if_pos h1, decide_eq_false (by omega)]; simp
      · rw [th (by omega)]
        by_cases h2 : i = 63
        · simp [h2]
        · rw [decide_eq_false (by omega), if_neg h2, if_neg h1]; rfl
  rw [t1]
  have t2 := t1 (neg x)
  rw [hx] at t2
  have h0 : ¬ (63 : Nat) < 63 := by omega
  by_cases h2 : i = 63
  · subst h2
    rw [t2]; simp
  · rw [if_neg h2] at t2 ⊢
    rw [decide_eq_false (fun k => h2 k.symm), Bool.xor_false]
    exact t2
theorem sr_negFloat {x : Nat} (h : x < 18446744073709551616) : sr (Op.negFloat .f64 x) = -sr x := by
  rw [negFloat_eq h, sr_wordOf _ (rung_lt x), sgn_not]; rfl
theorem rung_negFloat {x : Nat} (h : x < 18446744073709551616) : rung (Op.negFloat .f64 x) = rung x := by rw [negFloat_eq h, rung_wordOf _ (rung_lt x)]
theorem negFloat_lt {x : Nat} (h : x < 18446744073709551616) : Op.negFloat .f64 x < 18446744073709551616 := by rw [negFloat_eq h]; exact wordOf_lt _ (rung_lt x)
theorem negFloat_num {x : Nat} (h : Num x) : Num (Op.negFloat .f64 x) := ⟨negFloat_lt h.1, by rw [rung_negFloat h.1]; exact h.2⟩
theorem negFloat_fin {x : Nat} (h : Fin x) : Fin (Op.negFloat .f64 x) := ⟨negFloat_lt h.1, by rw [rung_negFloat h.1]; exact h.2⟩

theorem and_high {x k : Nat} (hx : x < 18446744073709551616) (hk : k ≤ 52) : x &&& (18446744073709551615 - (2 ^ k - 1)) = x - x % 2 ^ k := by
  have hp := Nat.two_pow_pos k
  have hp2 : 2 ^ k ≤ 2 ^ 52 := Nat.pow_le_pow_right (by omega) hk
  have e0 : x - x % 2 ^ k = 2 ^ k * (x / 2 ^ k) := by have := Nat.div_add_mod x (2 ^ k); omega
  rw [e0]
  apply Nat.eq_of_testBit_eq
  intro i
  rw [Nat.testBit_and, show 18446744073709551615 - (2 ^ k - 1) = 2 ^ 64 - ((2 ^ k - 1) + 1) by omega, Nat.testBit_two_pow_sub_succ (by omega), Nat.testBit_two_pow_sub_one, Nat.testBit_two_pow_mul, Nat.testBit_div_two_pow]
  by_cases h1 : k ≤ i
  · rw [show i - k + k = i by omega]
    by_cases h2 : i < 64
    · simp [h1, h2]
    · rw [Nat.testBit_lt_two_pow (Nat.lt_of_lt_of_le (show x < 2 ^ 64 by omega) (Nat.pow_le_pow_right (by omega) (by omega)))]; simp
  · simp [h1]; omega

theorem mval_big {r E f : Nat} (hr : r = 4503599627370496 * E + f) (hf : f < 4503599627370496) (hE : 1 ≤ E) : mval r = (4503599627370496 + f) * 2 ^ (E - 1) := by
  rw [mval, if_neg (by omega), show r % 4503599627370496 = f by omega, show r / 4503599627370496 = E by omega]
theorem mval_one : mval 4607182418800017408 = U := by
  obtain ⟨K, hK⟩ : ∃ K, K = 1023 := ⟨_, rfl⟩
  rw [mval_big (E := K) (f := 0) (by omega) (by omega) (by omega), U_eq (52 + (K - 1)) (by omega), Nat.pow_add]
theorem SV_one : SV 4607182418800017408 = U := by
  rw [SV, decide_eq_false (by omega), sgn_false, show (4607182418800017408 : Int).natAbs = 4607182418800017408 from rfl, mval_one]
/-- The word of a double from 1 to 2^40, cut to a whole number. -/
theorem cut_near {x : Nat} (hx : x < 18446744073709551616) (h1 : 4607182418800017408 ≤ rung x) (h2 : rung x ≤ 4787326403894837248) :
    ∃ z, x - x % 2 ^ (1075 - rung x / 4503599627370496) = z ∧ z < 18446744073709551616 ∧ neg z = neg x ∧ rung z ≤ rung x ∧ mval (rung z) = mval (rung x) / U * U := by
  have hs := word_split hx
  have hrl := rung_lt x
  generalize rung x = r at *
  obtain ⟨E, hE⟩ : ∃ E, r / 4503599627370496 = E := ⟨_, rfl⟩
  obtain ⟨f, hf⟩ : ∃ f, r % 4503599627370496 = f := ⟨_, rfl⟩
  rw [hE]
  have hfl : f < 4503599627370496 := by omega
  have hr : r = 4503599627370496 * E + f := by omega
  have hE1 : 1023 ≤ E := by omega
  have hE2 : E ≤ 1063 := by omega
  obtain ⟨k, hk⟩ : ∃ k, 1075 - E = k := ⟨_, rfl⟩
  rw [hk]
  have hk1 : k ≤ 52 := by omega
  have hp := Nat.two_pow_pos k
  have h52 : 4503599627370496 = 2 ^ k * 2 ^ (52 - k) := by rw [← Nat.pow_add, show k + (52 - k) = 52 by omega]
  have h63 : 9223372036854775808 = 2 ^ k * 2 ^ (63 - k) := by rw [← Nat.pow_add, show k + (63 - k) = 63 by omega]
  have hm : x % 2 ^ k = f % 2 ^ k := by
    have m1 : x % 2 ^ k = r % 2 ^ k := by
      rw [← hs, wordOf]
      cases neg x
      · rfl
      · simp only [if_true]
        rw [h63, Nat.add_mul_mod_self_left]
    rw [m1, hr, h52, Nat.mul_assoc, Nat.mul_add_mod]
  have hle : f % 2 ^ k ≤ f := Nat.mod_le _ _
  have hz : x - x % 2 ^ k = wordOf (neg x) (r - f % 2 ^ k) := by
    rw [hm]
    have : wordOf (neg x) r = x := hs
    generalize f % 2 ^ k = g at hle ⊢
    cases hn : neg x
    · rw [hn] at this
      have t : r + 0 = x := this
      show x - g = r - g + 0
      omega
    · rw [hn] at this
      have t : r + 9223372036854775808 = x := this
      show x - g = r - g + 9223372036854775808
      omega
  refine ⟨_, hz, wordOf_lt _ (by omega), neg_wordOf _ (by omega), ?_, ?_⟩
  · rw [rung_wordOf _ (by omega)]; omega
  rw [rung_wordOf _ (by omega), mval_big (E := E) (f := f - f % 2 ^ k) (by omega) (by omega) (by omega), mval_big (E := E) (f := f) hr hfl (by omega), U_eq (k + (E - 1)) (by omega), Nat.pow_add,
    Nat.mul_div_mul_right _ _ (Nat.two_pow_pos _), ← Nat.mul_assoc]
  congr 1
  have ha : (4503599627370496 + f) % 2 ^ k = f % 2 ^ k := by
    rw [h52, Nat.mul_add_mod]
  have := Nat.div_add_mod (4503599627370496 + f) (2 ^ k)
  rw [Nat.mul_comm] at this
  omega
theorem cut_small {x : Nat} (h : rung x < 4607182418800017408) : mval (rung x) / U * U = 0 := by
  rw [Nat.div_eq_of_lt, Nat.zero_mul]
  rw [← mval_one]
  exact mval_lt (by omega) h

theorem SV_at1 : SV 1 = 1 := by
  rw [SV, decide_eq_false (by omega), sgn_false, show (1 : Int).natAbs = 1 from rfl, mval, if_pos (by omega)]; rfl
theorem SV_atm1 : SV (-1) = -1 := by
  rw [SV, decide_eq_true (by omega), sgn_true, show (-1 : Int).natAbs = 1 from rfl, mval, if_pos (by omega)]; rfl
theorem Rnd_eq_zero {T : Int} : Rnd T = 0 ↔ T = 0 := by
  constructor
  · intro h
    by_cases h1 : 1 ≤ T
    · have := Rnd_mono h1
      have e := Rnd_SV (r := 1) (by omega)
      rw [SV_at1] at e
      omega
    · by_cases h2 : T ≤ -1
      · have := Rnd_mono h2
        have e := Rnd_SV (r := -1) (by omega)
        rw [SV_atm1] at e
        omega
      · omega
  · rintro rfl; exact Rnd_zero
/-- A whole double and one. -/
theorem add_one {z : Nat} (hz : Fin z) {n : Int} (h : SV (sr z) = n * (U : Int)) (hn : 0 ≤ n ∧ n ≤ 2199023255552) :
    ∃ y, double.add z 4607182418800017408 = some y ∧ Fin y ∧ SV (sr y) = (n + 1) * (U : Int) := by
  have h1 : Fin 4607182418800017408 := by unfold Fin; decide
  have e1 : sr 4607182418800017408 = 4607182418800017408 := by decide
  obtain ⟨y, hy, hyn, hys⟩ := add_fin hz h1
  obtain ⟨v, _, hv, hvs⟩ := ofInt_fin (n + 1) (by omega)
  have e : sr y = sr v := by
    rw [hys, h, e1, SV_one, ← Rnd_SV hv.num.bound, hvs, Int.add_mul, Int.one_mul]
  refine ⟨y, hy, ?_, by rw [e, hvs]⟩
  have := hv.sr_lt
  exact fin_of_sr hyn (by omega) (by omega)
/-- A whole double as an integer. -/
theorem to_int {z : Nat} (hz : Fin z) {n : Int} (h : SV (sr z) = n * (U : Int)) (hn : -2199023255552 ≤ n ∧ n ≤ 2199023255552) : floatToIntVal .f64 z .i64 = some n := by
  have ht := toInt_fin hz
  have hU := U_pos
  have hs : sgn (neg z) (mval (rung z)) = n * (U : Int) := by rw [sgn_SV]; exact h
  have hm : mval (rung z) = n.natAbs * U := by
    have := congrArg Int.natAbs hs
    rwa [sgn_natAbs, Int.natAbs_mul, Int.natAbs_natCast] at this
  rw [hm, Nat.mul_div_cancel _ hU] at ht
  have hsn : sgn (neg z) n.natAbs = n := by
    rw [hm, sgn_mul] at hs
    exact Int.eq_of_mul_eq_mul_right (by omega) hs
  rw [hsn] at ht
  unfold floatToIntVal
  rw [show (FloatKind.f64.decode z).toInt .zero = some n from ht]
  simp only
  rw [if_pos]
  show (-9223372036854775808 : Int) ≤ n ∧ n ≤ 9223372036854775807
  omega
end Go.Proofs.Ytidokfbjfdkfdaa.Fl
