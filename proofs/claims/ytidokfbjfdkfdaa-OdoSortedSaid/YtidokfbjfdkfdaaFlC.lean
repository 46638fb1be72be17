/-
  Sums, differences, the tenfold, the half, the inverse of doubles; the whole number below and above; a NaN's draw.
-/
import Derived.Test.YtidokfbjfdkfdaaFlB
namespace Go.Proofs.Ytidokfbjfdkfdaa.Fl
open Ieee
attribute [local irreducible] N E mval top

/-- A word that is no NaN. -/
def Num (z : Nat) : Prop := z < 18446744073709551616 ∧ rung z ≤ 9218868437227405312
/-- A finite one. -/
def Fin (z : Nat) : Prop := z < 18446744073709551616 ∧ rung z < 9218868437227405312
theorem Fin.num {z : Nat} (h : Fin z) : Num z := ⟨h.1, Nat.le_of_lt h.2⟩
theorem Num.bound {z : Nat} (h : Num z) : -9218868437227405312 ≤ sr z ∧ sr z ≤ 9218868437227405312 := by
  have := sgn_bound (neg z) (rung z)
  have := h.2
  unfold sr
  omega
theorem fin_of_sr {z : Nat} (h : Num z) (h1 : -9218868437227405312 < sr z) (h2 : sr z < 9218868437227405312) : Fin z := by
  have := sr_abs z
  exact ⟨h.1, by omega⟩
theorem Fin.sr_lt {z : Nat} (h : Fin z) : -9218868437227405312 < sr z ∧ sr z < 9218868437227405312 := by
  have := sr_abs z
  have := h.2
  omega

theorem read_SV (x : Nat) (h : Fin x) : ∃ m p, double.read x = .number (neg x) m p ∧ -1074 ≤ p ∧ sgn (neg x) (m * 2 ^ (p + 1074).toNat) = SV (sr x) := by
  obtain ⟨m, p, e, hp, _, _, hm⟩ := read_fin x h.2
  exact ⟨m, p, e, hp, by rw [hm, sgn_SV]; rfl⟩

theorem sum_write (s t : Bool) (m n : Nat) (i j : Int) (hi : -1074 ≤ i) (hj : -1074 ≤ j) (T : Int) (hT : sgn s (m * 2 ^ (i + 1074).toNat) + sgn t (n * 2 ^ (j + 1074).toNat) = T) :
    ∃ z, (Datum.sum (.number s m i) (.number t n j)).map double.write = some z ∧ Num z ∧ sr z = Rnd T := by
  have e1 := scaled s m i (min i j) (by omega) (by omega)
  have e2 := scaled t n j (min i j) (by omega) (by omega)
  obtain ⟨A, hA⟩ : ∃ A, sgn s (m * 2 ^ (i - min i j).toNat) + sgn t (n * 2 ^ (j - min i j).toNat) = A := ⟨_, rfl⟩
  obtain ⟨c, hc⟩ : ∃ c, 2 ^ (min i j + 1074).toNat = c := ⟨_, rfl⟩
  have hc0 : 0 < c := by rw [← hc]; exact Nat.two_pow_pos _
  have hAT : A * (c : Int) = T := by rw [← hA, Int.add_mul, ← hc, e1, e2, hT]
  obtain ⟨z, hz, h1, h2, h3, _⟩ := write_number (if A = 0 then s && t else A < 0) A.natAbs (min i j) (by omega) T (by rw [hc, ← hAT, Int.natAbs_mul]; simp) (by
    intro h0
    have hA0 : A ≠ 0 := by intro h; rw [h, Int.zero_mul] at hAT; exact h0 hAT.symm
    rw [if_neg hA0, decide_eq_decide, ← hAT]
    constructor
    · intro h; exact Int.mul_neg_of_neg_of_pos h (by omega)
    · intro h
      by_cases h4 : A < 0
      · exact h4
      · have := Int.mul_nonneg (show 0 ≤ A by omega) (show (0 : Int) ≤ c by omega)
        omega)
  refine ⟨z, ?_, ⟨h1, h2⟩, h3⟩
  show some (double.write (.number (if signed s m (i - min i j).toNat + signed t n (j - min i j).toNat = 0 then s && t else signed s m (i - min i j).toNat + signed t n (j - min i j).toNat < 0) (signed s m (i - min i j).toNat + signed t n (j - min i j).toNat).natAbs (min i j))) = some z
  rw [signed_eq, signed_eq, hA, hz]

theorem add_fin {x y : Nat} (hx : Fin x) (hy : Fin y) : ∃ z, double.add x y = some z ∧ Num z ∧ sr z = Rnd (SV (sr x) + SV (sr y)) := by
  obtain ⟨m, i, ex, hi, hm⟩ := read_SV x hx
  obtain ⟨n, j, ey, hj, hn⟩ := read_SV y hy
  unfold Format.add
  rw [ex, ey]
  exact sum_write _ _ _ _ _ _ hi hj _ (by rw [hm, hn])
theorem sgn_not (b : Bool) (n : Nat) : sgn (!b) n = -sgn b n := by cases b <;> simp [sgn]
theorem sub_fin {x y : Nat} (hx : Fin x) (hy : Fin y) : ∃ z, double.sub x y = some z ∧ Num z ∧ sr z = Rnd (SV (sr x) - SV (sr y)) := by
  obtain ⟨m, i, ex, hi, hm⟩ := read_SV x hx
  obtain ⟨n, j, ey, hj, hn⟩ := read_SV y hy
  unfold Format.sub
  rw [ex, ey]
  exact sum_write _ _ _ _ _ _ hi hj _ (by rw [hm, sgn_not, hn]; omega)

theorem word_lt (s : Bool) {r : Nat} (h : r ≤ 9218868437227405312) : double.word s r < 18446744073709551616 := Nat.lt_of_lt_of_le (double.word_lt s (rung := r) (by rw [sW]; omega)) (by decide)
theorem word_num (s : Bool) {r : Nat} (h : r ≤ 9218868437227405312) : Num (double.word s r) := ⟨word_lt s h, by rw [rung_word s r h]; exact h⟩

/-- The infinity of a sign. -/
theorem inf_write (s : Bool) : ∃ z, double.write (.infinity s) = z ∧ Num z ∧ sr z = sgn s 9218868437227405312 :=
  ⟨_, rfl, by show Num (double.word s double.infRung); rw [inf]; exact word_num s (Nat.le_refl _), by show sr (double.word s double.infRung) = _; rw [inf]; exact sr_word s _ (Nat.le_refl _)⟩

theorem ten : double.read 4621819117588971520 = .number false 5629499534213120 (-49) := by decide
theorem two : double.read 4611686018427387904 = .number false 4503599627370496 (-51) := by decide
theorem one : double.read 4607182418800017408 = .number false 4503599627370496 (-52) := by decide

theorem Rnd_sgn (s : Bool) (V : Nat) : Rnd (sgn s V) = sgn s (N V 0) := by
  by_cases h0 : V = 0
  · subst h0; rw [sgn_zero, N_zero, sgn_zero, Rnd_zero]
  · cases s
    · rw [sgn_false V, sgn_false (N V 0), Rnd_nonneg (by omega), Int.natAbs_natCast]
    · rw [sgn_true V, sgn_true (N V 0), Rnd_neg (by omega), Int.natAbs_neg, Int.natAbs_natCast]

theorem product_eq (s t : Bool) (m n : Nat) (i j : Int) : (Datum.product (.number s m i) (.number t n j)).map double.write = some (double.nearest (s ^^ t) (m * n) (i + j)) := rfl
theorem mul10_mag (m : Nat) (i : Int) : m * 5629499534213120 * 2 ^ (i + -49 + 1074 + ((49 : Nat) : Int)).toNat = (m * 2 ^ (i + 1074).toNat * 10) * 2 ^ 49 := by
  rw [show i + -49 + 1074 + ((49 : Nat) : Int) = i + 1074 by omega, show (5629499534213120 : Nat) = 10 * 2 ^ 49 from by decide]
  generalize 2 ^ (i + 1074).toNat = a
  generalize 2 ^ 49 = b
  rw [Nat.mul_right_comm, Nat.mul_assoc m, ← Nat.mul_assoc m, Nat.mul_assoc (m * a)]
theorem mul10_nearest (s : Bool) (m : Nat) (i : Int) (hi : -1074 ≤ i) : double.nearest s (m * 5629499534213120) (i + -49) = double.word s (N (m * 2 ^ (i + 1074).toNat * 10) 0) := by
  have e := nearest_eq s (m * 5629499534213120) (i + -49) 49 (by omega)
  rw [mul10_mag] at e
  generalize m * 2 ^ (i + 1074).toNat * 10 = V at *
  have e2 := N_scale V 0 49
  rw [Nat.zero_add] at e2
  rw [e2] at e
  exact e
theorem mul10_fin {x : Nat} (hx : Fin x) : ∃ z, double.mul x 4621819117588971520 = some z ∧ Num z ∧ sr z = Rnd (SV (sr x) * 10) := by
  obtain ⟨m, i, ex, hi, hm⟩ := read_SV x hx
  unfold Format.mul
  rw [ex, ten, product_eq, Bool.xor_false, mul10_nearest _ _ _ hi]
  have hN := N_le (m * 2 ^ (i + 1074).toNat * 10) 0
  refine ⟨_, rfl, word_num _ hN, ?_⟩
  rw [sr_word _ _ hN, ← hm, ← Rnd_sgn, sgn_mul]
  rfl
theorem mul10_inf {x : Nat} (h : rung x = 9218868437227405312) : ∃ z, double.mul x 4621819117588971520 = some z ∧ Num z ∧ sr z = sr x := by
  unfold Format.mul
  rw [read_inf x h, ten]
  obtain ⟨z, hz, h1, h2⟩ := inf_write (neg x)
  refine ⟨z, ?_, h1, ?_⟩
  · show some (double.write (.infinity (neg x ^^ false))) = _
    rw [Bool.xor_false, hz]
  · rw [h2, sr, h]

/-- A sum with an infinity. -/
theorem add_inf {x y : Nat} (hx : Num x) (hy : Num y) (h : rung x = 9218868437227405312 ∨ rung y = 9218868437227405312) :
    (∃ z, double.add x y = some z ∧ Num z ∧ (sr z = 9218868437227405312 ∨ sr z = -9218868437227405312)) ∨ double.add x y = none := by
  unfold Format.add
  have hres : ∀ s, ∃ z, (some (Datum.infinity s)).map double.write = some z ∧ Num z ∧ (sr z = 9218868437227405312 ∨ sr z = -9218868437227405312) := by
    intro s
    obtain ⟨z, hz, h1, h2⟩ := inf_write s
    exact ⟨z, by rw [Option.map_some, hz], h1, by cases s <;> simp [sgn] at h2 <;> omega⟩
  rcases Nat.lt_or_eq_of_le hx.2 with fx | ix
  · obtain ⟨m, i, ex, _⟩ := read_fin x fx
    have iy : rung y = 9218868437227405312 := by omega
    rw [ex, read_inf y iy]
    exact .inl (hres _)
  · rw [read_inf x ix]
    rcases Nat.lt_or_eq_of_le hy.2 with fy | iy
    · obtain ⟨n, j, ey, _⟩ := read_fin y fy
      rw [ey]
      exact .inl (hres _)
    · rw [read_inf y iy]
      by_cases hs : neg x = neg y
      · rw [show Datum.sum (.infinity (neg x)) (.infinity (neg y)) = some (.infinity (neg x)) from if_pos hs]
        exact .inl (hres _)
      · rw [show Datum.sum (.infinity (neg x)) (.infinity (neg y)) = none from if_neg hs]
        exact .inr rfl
theorem sub_inf {x y : Nat} (hx : Num x) (hy : Num y) (h : rung x = 9218868437227405312 ∨ rung y = 9218868437227405312) :
    (∃ z, double.sub x y = some z ∧ Num z ∧ (sr z = 9218868437227405312 ∨ sr z = -9218868437227405312)) ∨ double.sub x y = none := by
  unfold Format.sub
  have hres : ∀ s, ∃ z, (some (Datum.infinity s)).map double.write = some z ∧ Num z ∧ (sr z = 9218868437227405312 ∨ sr z = -9218868437227405312) := by
    intro s
    obtain ⟨z, hz, h1, h2⟩ := inf_write s
    exact ⟨z, by rw [Option.map_some, hz], h1, by cases s <;> simp [sgn] at h2 <;> omega⟩
  rcases Nat.lt_or_eq_of_le hx.2 with fx | ix
  · obtain ⟨m, i, ex, _⟩ := read_fin x fx
    have iy : rung y = 9218868437227405312 := by omega
    rw [ex, read_inf y iy]
    exact .inl (hres _)
  · rw [read_inf x ix]
    rcases Nat.lt_or_eq_of_le hy.2 with fy | iy
    · obtain ⟨n, j, ey, _⟩ := read_fin y fy
      rw [ey]
      exact .inl (hres _)
    · rw [read_inf y iy]
      by_cases hs : neg x = !neg y
      · rw [show Datum.sum (.infinity (neg x)) (Datum.infinity (neg y)).opposite = some (.infinity (neg x)) from if_pos hs]
        exact .inl (hres _)
      · rw [show Datum.sum (.infinity (neg x)) (Datum.infinity (neg y)).opposite = none from if_neg hs]
        exact .inr rfl

/-- The inverse of a zero is the infinity of its sign. -/
theorem inv_zero {x : Nat} (h : rung x = 0) : ∃ z, double.div 4607182418800017408 x = some z ∧ Num z ∧ sr z = sgn (neg x) 9218868437227405312 := by
  unfold Format.div
  have e : double.read x = .number (neg x) 0 (-1074) := by rw [read_eq, if_pos (by omega), h]
  rw [e, one]
  obtain ⟨z, hz, h1, h2⟩ := inf_write (neg x)
  exact ⟨z, by show some (double.write (.infinity (false ^^ neg x))) = _; rw [Bool.false_xor, hz], h1, h2⟩

/-- The half of what is not below nought. -/
theorem half_fin {x : Nat} (hx : Fin x) (h0 : 0 ≤ sr x) : ∃ z, double.div x 4611686018427387904 = some z ∧ Num z ∧ 0 ≤ sr z ∧ sr z ≤ sr x := by
  obtain ⟨m, i, ex, hi, _, hlt, hm⟩ := read_fin x hx.2
  unfold Format.div
  rw [ex, two]
  have hl : m.log2 ≤ 52 := by
    by_cases hz : m = 0
    · subst hz; simp
    · have := (Nat.log2_lt (n := m) (k := 53) hz).2 (by omega)
      omega
  obtain ⟨more, hmore⟩ : ∃ more, double.fractionBits + 2 + (4503599627370496 : Nat).log2 - m.log2 = more := ⟨_, rfl⟩
  have hlog : (4503599627370496 : Nat).log2 = 52 := by decide
  have hm54 : 54 ≤ more := by rw [hlog, fb] at hmore; omega
  show ∃ z, some (double.nearest (neg x ^^ false) (2 * (m <<< (double.fractionBits + 2 + (4503599627370496 : Nat).log2 - m.log2) / 4503599627370496) + (m <<< (double.fractionBits + 2 + (4503599627370496 : Nat).log2 - m.log2) % 4503599627370496 != 0).toNat)
    (i - -51 - ((double.fractionBits + 2 + (4503599627370496 : Nat).log2 - m.log2 : Nat) : Int) - 1)) = some z ∧ _
  rw [hmore, Bool.xor_false, Nat.shiftLeft_eq]
  have e0 : m * 2 ^ more = m * 2 ^ (more - 52) * 4503599627370496 := by
    rw [show (4503599627370496 : Nat) = 2 ^ 52 from by decide, Nat.mul_assoc, ← Nat.pow_add, show more - 52 + 52 = more by omega]
  rw [e0, Nat.mul_div_cancel _ (by omega), Nat.mul_mod_left, show ((0 : Nat) != 0).toNat = 0 from rfl, Nat.add_zero]
  have e := nearest_eq (neg x) (2 * (m * 2 ^ (more - 52))) (i - -51 - (more : Int) - 1) (more - 50) (by omega)
  have e2 : 2 * (m * 2 ^ (more - 52)) * 2 ^ (i - -51 - (more : Int) - 1 + 1074 + ((more - 50 : Nat) : Int)).toNat = m * 2 ^ (i + 1074).toNat * 2 ^ (more - 51) := by
    rw [show i - -51 - (more : Int) - 1 + 1074 + ((more - 50 : Nat) : Int) = i + 1074 by omega, show more - 51 = more - 52 + 1 by omega, Nat.pow_succ]
    generalize 2 ^ (i + 1074).toNat = a
    generalize 2 ^ (more - 52) = b
    rw [Nat.mul_comm 2, Nat.mul_assoc m a, Nat.mul_assoc m b, Nat.mul_assoc m, Nat.mul_comm a]
  have e3 := N_scale (m * 2 ^ (i + 1074).toNat) 1 (more - 51)
  rw [show 1 + (more - 51) = more - 50 by omega] at e3
  rw [e2, e3, hm] at e
  have hN := N_le (mval (rung x)) 1
  have hN2 : N (mval (rung x)) 1 ≤ rung x := by
    have h1 := N_exact (rung x) (Nat.le_of_lt hx.2) 1
    have h2 := N_mono (show mval (rung x) ≤ mval (rung x) * 2 ^ 1 by rw [Nat.pow_one]; omega) 1
    omega
  refine ⟨_, rfl, by rw [e]; exact word_num _ hN, ?_⟩
  rw [e, sr_word _ _ hN]
  unfold sr at h0 ⊢
  generalize N (mval (rung x)) 1 = a at *
  generalize rung x = b at *
  cases hn : neg x
  · rw [sgn_false, sgn_false]; omega
  · rw [hn, sgn_true] at h0
    rw [sgn_true, sgn_true]; omega

/-- A whole number of units: U least doubles are one. -/
def K0 : Nat := 1074
def U : Nat := 2 ^ K0
theorem U_eq (k : Nat) (hk : k = 1074) : U = 2 ^ k := by rw [U, show k = K0 from hk]
theorem U_pos : 0 < U := by rw [U]; exact Nat.two_pow_pos _
attribute [local irreducible] U

theorem cut_zero (s : Bool) (n drop : Nat) : Toward.zero.cut s n drop = n / 2 ^ drop := by
  unfold Toward.cut
  simp only
  rw [Nat.one_shiftLeft]
  show n / 2 ^ min drop (n.log2 + 2) + 0 = _
  rw [Nat.add_zero]
  by_cases h : drop ≤ n.log2 + 2
  · rw [Nat.min_eq_left h]
  · have h1 : n < 2 ^ (n.log2 + 1) := Nat.lt_log2_self
    rw [Nat.min_eq_right (by omega), Nat.div_eq_of_lt, Nat.div_eq_of_lt]
    · exact Nat.lt_of_lt_of_le h1 (Nat.pow_le_pow_right (by omega) (by omega))
    · exact Nat.lt_of_lt_of_le h1 (Nat.pow_le_pow_right (by omega) (by omega))

/-- A finite double, cut towards nought. -/
theorem toInt_fin {x : Nat} (hx : Fin x) : (double.read x).toInt .zero = some (sgn (neg x) (mval (rung x) / U)) := by
  obtain ⟨m, i, ex, hi, _, _, hm⟩ := read_fin x hx.2
  rw [ex]
  show some (signed (neg x) (Toward.zero.cut (neg x) (m <<< i.toNat) (-i).toNat) 0) = _
  rw [signed_eq, cut_zero, Nat.shiftLeft_eq, Nat.pow_zero, Nat.mul_one, ← hm]
  congr 2
  by_cases h : 0 ≤ i
  · obtain ⟨K, hK⟩ : ∃ K : Nat, K = 1074 := ⟨_, rfl⟩
    rw [U_eq K hK, show (-i).toNat = 0 by omega, Nat.pow_zero, Nat.div_one, show (i + 1074).toNat = i.toNat + K by omega, Nat.pow_add, ← Nat.mul_assoc, Nat.mul_div_cancel _ (Nat.two_pow_pos _)]
  · rw [U_eq ((-i).toNat + (i + 1074).toNat) (by omega), show i.toNat = 0 by omega, Nat.pow_zero, Nat.mul_one, Nat.pow_add, Nat.mul_div_mul_right _ _ (Nat.two_pow_pos _)]

/-- A whole number as a double. -/
theorem ofInt_fin (n : Int) (h : n.natAbs < 9007199254740992) : ∃ z, double.write (.number (decide (n < 0)) n.natAbs 0) = z ∧ Fin z ∧ SV (sr z) = n * (U : Int) := by
  obtain ⟨K, hK⟩ : ∃ K : Nat, K = 1074 := ⟨_, rfl⟩
  have hU := U_eq K hK
  have hp := U_pos
  have ha : (n * (U : Int)).natAbs = n.natAbs * 2 ^ K := by rw [Int.natAbs_mul, Int.natAbs_natCast, hU]
  obtain ⟨z, hz, h1, h2, h3, _⟩ := write_number (decide (n < 0)) n.natAbs 0 (by omega) (n * (U : Int)) (by
      rw [ha, Int.natCast_mul, show ((0 : Int) + 1074).toNat = K by omega]) (by
      intro h0
      rw [decide_eq_decide]
      constructor
      · intro hn; exact Int.mul_neg_of_neg_of_pos hn (by omega)
      · intro hn
        by_cases h4 : n < 0
        · exact h4
        · have := Int.mul_nonneg (show 0 ≤ n by omega) (show (0 : Int) ≤ U by omega)
          omega)
  obtain ⟨e1, e2⟩ := mval_N n.natAbs K h (by omega)
  have hab := sr_abs z
  have hr : rung z = N (n.natAbs * 2 ^ K) 0 := by
    rw [← hab, h3, Rnd, sgn_natAbs, ha]
  refine ⟨z, hz, ⟨h1, by rw [hr]; exact e2⟩, ?_⟩
  rw [h3]
  have hs : n * (U : Int) = sgn (decide (n < 0)) (n.natAbs * U) := by
    rw [sgn_mul]
    congr 1
    by_cases h4 : n < 0
    · rw [decide_eq_true h4, sgn_true]; omega
    · rw [decide_eq_false h4, sgn_false]; omega
  rw [hs, Rnd_sgn, ← sgn_SV, hU, e1]
end Go.Proofs.Ytidokfbjfdkfdaa.Fl
