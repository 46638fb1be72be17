/-
  Doubles in a walk: comparisons, the tenfold, whole numbers below and above, the place in the order, as integers.
-/
import Derived.Test.YtidokfbjfdkfdaaFlC
import Derived.Test.YtidokfbjfdkfdaaMem
import Derived.Lib.Hide
import Derived.Laws.FloatArith
namespace Go.Proofs.Ytidokfbjfdkfdaa
open Go.RowKit Fl
open Ieee (double)
attribute [local irreducible] N E mval top U

def nanB (x : Nat) : Bool := decide (9218868437227405312 < rung x)
theorem num_of {x : Nat} (hw : (Lit.float .f64 x).wf = true) (h : nanB x = false) : Num x := by
  refine ⟨?_, ?_⟩
  · simpa [Lit.wf] using hw
  · have := of_decide_eq_false h; omega
theorem nanB_num {x : Nat} (h : Num x) : nanB x = false := decide_eq_false (by have := h.2; omega)

section cmp
variable {x y : Nat}
theorem ord_num (hx : Num x) (hy : Num y) : FloatKind.f64.format.order x y = some (compare (sr x) (sr y)) := order_eq x y hx.2 hy.2
theorem ord_none (h : nanB x = true ∨ nanB y = true) : FloatKind.f64.format.order x y = none := order_nan x y (h.imp of_decide_eq_true of_decide_eq_true)
theorem lt_num (hx : Num x) (hy : Num y) : (FloatKind.f64.format.order x y == some .lt) = decide (sr x < sr y) := by
  rw [ord_num hx hy]
  by_cases h : sr x < sr y
  · rw [cmp_lt h, decide_eq_true h]; rfl
  · rw [decide_eq_false h]
    by_cases h2 : sr x = sr y
    · rw [cmp_eq h2]; rfl
    · rw [cmp_gt (by omega)]; rfl
theorem gt_num (hx : Num x) (hy : Num y) : (FloatKind.f64.format.order x y == some .gt) = decide (sr y < sr x) := by
  rw [ord_num hx hy]
  by_cases h : sr y < sr x
  · rw [cmp_gt h, decide_eq_true h]; rfl
  · rw [decide_eq_false h]
    by_cases h2 : sr x = sr y
    · rw [cmp_eq h2]; rfl
    · rw [cmp_lt (by omega)]; rfl
theorem eq_num (hx : Num x) (hy : Num y) : (FloatKind.f64.format.order x y == some .eq) = decide (sr x = sr y) := by
  rw [ord_num hx hy]
  by_cases h : sr x = sr y
  · rw [cmp_eq h, decide_eq_true h]; rfl
  · rw [decide_eq_false h]
    by_cases h2 : sr x < sr y
    · rw [cmp_lt h2]; rfl
    · rw [cmp_gt (by omega)]; rfl
theorem le_num (hx : Num x) (hy : Num y) : (FloatKind.f64.format.order x y == some .lt || FloatKind.f64.format.order x y == some .eq) = decide (sr x ≤ sr y) := by
  rw [lt_num hx hy, eq_num hx hy, ← Bool.decide_or, decide_eq_decide]
  omega
theorem ge_num (hx : Num x) (hy : Num y) : (FloatKind.f64.format.order x y == some .gt || FloatKind.f64.format.order x y == some .eq) = decide (sr y ≤ sr x) := by
  rw [gt_num hx hy, eq_num hx hy, ← Bool.decide_or, decide_eq_decide]
  omega
theorem ne_num (hx : Num x) (hy : Num y) : (FloatKind.f64.format.order x y != some .eq) = decide (sr x ≠ sr y) := by
  rw [bne, eq_num hx hy, decide_not]
end cmp
theorem ne_self (x : Nat) (hw : (Lit.float .f64 x).wf = true) : (FloatKind.f64.format.order x x != some .eq) = nanB x := by
  cases h : nanB x
  · rw [ne_num (num_of hw h) (num_of hw h)]; simp
  · rw [ord_none (.inl h)]; rfl
theorem eq_self (x : Nat) (hw : (Lit.float .f64 x).wf = true) : (FloatKind.f64.format.order x x == some .eq) = !nanB x := by
  have := ne_self x hw
  rw [bne] at this
  rw [← this, Bool.not_not]

/-- The constants. -/
theorem num_zero : Num 0 := by unfold Num; decide
theorem sr_zero : sr 0 = 0 := by decide
theorem num_far : Num 4787326403894837248 := by unfold Num; decide
theorem sr_far : sr 4787326403894837248 = 4787326403894837248 := by decide
theorem num_nfar : Num 14010698440749613056 := by unfold Num; decide
theorem sr_nfar : sr 14010698440749613056 = -4787326403894837248 := by decide

/-- The rung of the tenfold. -/
def tenOf (r : Int) : Int := Rnd (SV r * 10)
theorem wf_num {z : Nat} (h : z < 18446744073709551616) : (Lit.float .f64 z).wf = true := by simp [Lit.wf, h]
theorem Fl.Num.wf {z : Nat} (h : Num z) : (Lit.float .f64 z).wf = true := wf_num h.1
theorem tenOf_inf (s : Bool) : tenOf (sgn s 9218868437227405312) = sgn s 9218868437227405312 := by
  unfold tenOf
  have h1 : SV (sgn s 9218868437227405312) * 10 = sgn s (mval 9218868437227405312 * 10) := by
    rw [← sgn_SV, sgn_mul]; rfl
  rw [h1, Rnd_sgn]
  congr 1
  have h2 := N_mono (show mval 9218868437227405312 ≤ mval 9218868437227405312 * 10 by omega) 0
  have h3 := N_exact 9218868437227405312 (Nat.le_refl _) 0
  rw [Nat.pow_zero, Nat.mul_one] at h3
  have h4 := N_le (mval 9218868437227405312 * 10) 0
  generalize N (mval 9218868437227405312 * 10) 0 = a at *
  generalize N (mval 9218868437227405312) 0 = b at *
  omega
theorem mul10_num {x : Nat} (hx : Num x) : ∃ z, floatBits .mul .f64 x 4621819117588971520 = some z ∧ Num z ∧ sr z = tenOf (sr x) := by
  rcases Nat.lt_or_eq_of_le hx.2 with fx | ix
  · exact mul10_fin ⟨hx.1, fx⟩
  · obtain ⟨z, h1, h2, h3⟩ := mul10_inf ix
    refine ⟨z, h1, h2, ?_⟩
    rw [h3, sr, ix, tenOf_inf]

/-- A finite double, rounded down and up to a whole number. -/
def downOf (r : Int) : Int := SV r / (U : Int)
def upOf (r : Int) : Int := -(-SV r / (U : Int))
theorem downOf_mono {r s : Int} (hr : -9218868437227405312 ≤ r ∧ r ≤ 9218868437227405312) (hs : -9218868437227405312 ≤ s ∧ s ≤ 9218868437227405312) (h : r ≤ s) : downOf r ≤ downOf s :=
  Int.ediv_le_ediv (by have := U_pos; omega) ((SV_le hr hs).2 h)
theorem upOf_mono {r s : Int} (hr : -9218868437227405312 ≤ r ∧ r ≤ 9218868437227405312) (hs : -9218868437227405312 ≤ s ∧ s ≤ 9218868437227405312) (h : r ≤ s) : upOf r ≤ upOf s :=
  Int.neg_le_neg (Int.ediv_le_ediv (by have := U_pos; omega) (Int.neg_le_neg ((SV_le hr hs).2 h)))
theorem down_le_up (r : Int) : downOf r ≤ upOf r := by
  have hU : (0 : Int) < U := by have := U_pos; omega
  have h1 := Int.ediv_mul_le (SV r) (show (U : Int) ≠ 0 by omega)
  have h2 := Int.ediv_mul_le (-SV r) (show (U : Int) ≠ 0 by omega)
  refine Int.le_of_mul_le_mul_right (a := (U : Int)) ?_ hU
  unfold downOf upOf
  rw [Int.neg_mul]
  omega

theorem mval_far : mval 4787326403894837248 = 1099511627776 * U := by
  obtain ⟨K, hK⟩ : ∃ K : Nat, K = 1074 := ⟨_, rfl⟩
  rw [U_eq K hK, mval, if_neg (by omega), show 4787326403894837248 % 4503599627370496 = 0 from by decide, show 4787326403894837248 / 4503599627370496 - 1 = K - 12 by omega,
    show (4503599627370496 + 0 : Nat) = 1099511627776 * 2 ^ 12 from by decide, Nat.mul_assoc, ← Nat.pow_add, show 12 + (K - 12) = K by omega]
/-- What lies within the limits stands for at most 2^40. -/
theorem near_rung {r : Nat} (h : r ≤ 4787326403894837248) : mval r ≤ 1099511627776 * U := by
  rw [← mval_far]
  rcases Nat.lt_or_eq_of_le h with h | h
  · exact Nat.le_of_lt (mval_lt (by omega) h)
  · rw [h]; exact Nat.le_refl _
theorem floor_of {T a : Int} (h1 : a * (U : Int) ≤ T) (h2 : T < (a + 1) * (U : Int)) : T / (U : Int) = a := by
  have hU : (0 : Int) < U := by have := U_pos; omega
  have k1 := Int.le_ediv_of_mul_le hU h1
  have k2 := Int.ediv_lt_of_lt_mul hU h2
  omega
/-- The whole number that a near double is cut to. -/
theorem trunc_near {x : Nat} (hx : Num x) (h1 : -4787326403894837248 ≤ sr x) (h2 : sr x ≤ 4787326403894837248) : ∃ n z, floatToIntVal .f64 x .i64 = some n ∧ -1099511627776 ≤ n ∧ n ≤ 1099511627776 ∧ floatOfInt .f64 n = z ∧ Num z ∧
    (sr x < sr z → downOf (sr x) = n - 1) ∧ (¬ sr x < sr z → downOf (sr x) = n) ∧ (sr z < sr x → upOf (sr x) = n + 1) ∧ (¬ sr z < sr x → upOf (sr x) = n) := by
  have hf : Fl.Fin x := fin_of_sr hx (by omega) (by omega)
  have hab := sr_abs x
  have hm := near_rung (r := rung x) (by omega)
  have hU := U_pos
  have hq : mval (rung x) / U ≤ 1099511627776 := by
    rw [Nat.div_le_iff_le_mul_add_pred hU, Nat.mul_comm]; omega
  have hsb := sgn_bound (neg x) (mval (rung x) / U)
  obtain ⟨n, hn⟩ : ∃ n, sgn (neg x) (mval (rung x) / U) = n := ⟨_, rfl⟩
  have ht := toInt_fin hf
  rw [hn] at ht hsb
  have hnb : -1099511627776 ≤ n ∧ n ≤ 1099511627776 := by omega
  obtain ⟨z, hz, hz1, hz2⟩ := ofInt_fin n (by omega)
  have hb := hx.bound
  have hzb := hz1.num.bound
  have hlt : sr x < sr z ↔ SV (sr x) < n * (U : Int) := by rw [← hz2]; exact (SV_lt hb hzb).symm
  have hgt : sr z < sr x ↔ n * (U : Int) < SV (sr x) := by rw [← hz2]; exact (SV_lt hzb hb).symm
  have hSV : SV (sr x) = sgn (neg x) (mval (rung x)) := (sgn_SV _ _).symm
  have hdm := Nat.div_add_mod (mval (rung x)) U
  have hml := Nat.mod_lt (mval (rung x)) hU
  have hU' : (0 : Int) < U := by omega
  -- the number, and how it stands to what it was cut from
  have hcut : (n * (U : Int) ≤ SV (sr x) ∧ SV (sr x) < (n + 1) * (U : Int) ∧ 0 ≤ SV (sr x)) ∨ ((n - 1) * (U : Int) < SV (sr x) ∧ SV (sr x) ≤ n * (U : Int) ∧ SV (sr x) ≤ 0) := by
    rw [hSV, ← hn]
    generalize mval (rung x) = M at *
    generalize M / U = q at *
    generalize M % U = r at *
    have e : ((U * q : Nat) : Int) = (q : Int) * (U : Int) := by rw [Int.natCast_mul, Int.mul_comm]
    cases neg x
    · left
      rw [sgn_false, sgn_false, Int.add_mul, Int.one_mul]; omega
    · right
      rw [sgn_true, sgn_true, Int.sub_mul, Int.one_mul, Int.neg_mul]; omega
  refine ⟨n, z, ?_, hnb.1, hnb.2, hz, hz1.num, ?_, ?_, ?_, ?_⟩
  · unfold floatToIntVal
    rw [show (FloatKind.f64.decode x).toInt .zero = some n from ht]
    simp only
    rw [if_pos]
    show (-9223372036854775808 : Int) ≤ n ∧ n ≤ 9223372036854775807
    omega
  all_goals rw [Int.add_mul, Int.sub_mul, Int.one_mul] at hcut
  · intro h
    have h := hlt.1 h
    exact floor_of (by rw [Int.sub_mul, Int.one_mul]; omega) (by rw [show n - 1 + 1 = n by omega]; exact h)
  · intro h
    have h : ¬ SV (sr x) < n * (U : Int) := fun k => h (hlt.2 k)
    exact floor_of (by omega) (by rw [Int.add_mul, Int.one_mul]; omega)
  · intro h
    have h := hgt.1 h
    have e : -SV (sr x) / (U : Int) = -(n + 1) := floor_of (by rw [Int.neg_mul, Int.add_mul, Int.one_mul]; omega) (by rw [show -(n + 1) + 1 = -n by omega, Int.neg_mul]; omega)
    unfold upOf
    rw [e]; omega
  · intro h
    have h : ¬ n * (U : Int) < SV (sr x) := fun k => h (hgt.2 k)
    have e : -SV (sr x) / (U : Int) = -n := floor_of (by rw [Int.neg_mul]; omega) (by rw [Int.add_mul, Int.neg_mul, Int.one_mul]; omega)
    unfold upOf
    rw [e]; omega

end Go.Proofs.Ytidokfbjfdkfdaa
