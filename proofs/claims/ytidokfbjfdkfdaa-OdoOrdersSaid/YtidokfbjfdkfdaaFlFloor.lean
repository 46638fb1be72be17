/-
  Package math's Floor and Ceil of a near double; IsInf of one that is no NaN.
-/
import Derived.Test.YtidokfbjfdkfdaaFlMath
namespace Go.Proofs.Ytidokfbjfdkfdaa
open Go.RowKit Fl
open Ieee (double Toward)
attribute [local irreducible] N E mval top U

theorem sr_rung (x : Nat) : sr (rung x) = rung x ∧ rung (rung x) = rung x := by
  have h := rung_lt x
  have e := rung_wordOf false h
  have e2 := sr_wordOf false h
  have e3 : wordOf false (rung x) = rung x := by simp [wordOf]
  rw [e3] at e e2
  exact ⟨e2, e⟩
theorem near_fin {x : Nat} (hx : Num x) (hn : nearR (sr x)) : Fl.Fin x := fin_of_sr hx (by unfold nearR at hn; omega) (by unfold nearR at hn; omega)
theorem SV_sgn (x : Nat) : SV (sr x) = sgn (neg x) (mval (rung x)) := by
  rw [show sr x = sgn (neg x) (rung x) from rfl, ← sgn_SV]
theorem near_quot {x : Nat} (hn : nearR (sr x)) : mval (rung x) / U ≤ 1099511627776 := by
  have hab := sr_abs x
  unfold nearR at hn
  have hm := near_rung (r := rung x) (by omega)
  have hU := U_pos
  rw [Nat.div_le_iff_le_mul_add_pred hU, Nat.mul_comm]; omega

/-- A double that is a whole number. -/
def IsInt (z : Nat) (n : Int) : Prop := Fl.Fin z ∧ SV (sr z) = n * (U : Int)

theorem cut_down (s : Bool) (n drop : Nat) : Toward.down.cut s n drop = n / 2 ^ drop + (if s = true ∧ n % 2 ^ drop ≠ 0 then 1 else 0) := by
  unfold Toward.cut
  simp only
  rw [Nat.one_shiftLeft]
  have key : n / 2 ^ min drop (n.log2 + 2) = n / 2 ^ drop ∧ n % 2 ^ min drop (n.log2 + 2) = n % 2 ^ drop := by
    by_cases h : drop ≤ n.log2 + 2
    · rw [Nat.min_eq_left h]; exact ⟨rfl, rfl⟩
    · have h1 : n < 2 ^ (n.log2 + 1) := Nat.lt_log2_self
      have h2 : n < 2 ^ (n.log2 + 2) := Nat.lt_of_lt_of_le h1 (Nat.pow_le_pow_right (by omega) (by omega))
      have h3 : n < 2 ^ drop := Nat.lt_of_lt_of_le h1 (Nat.pow_le_pow_right (by omega) (by omega))
      rw [Nat.min_eq_right (by omega), Nat.div_eq_of_lt h2, Nat.div_eq_of_lt h3, Nat.mod_eq_of_lt h2, Nat.mod_eq_of_lt h3]; exact ⟨rfl, rfl⟩
  rw [key.1, key.2]
  congr 1
  cases s <;> by_cases h : n % 2 ^ drop = 0 <;> simp [h]
theorem cut_up (s : Bool) (n drop : Nat) : Toward.up.cut s n drop = n / 2 ^ drop + (if s = false ∧ n % 2 ^ drop ≠ 0 then 1 else 0) := by
  unfold Toward.cut
  simp only
  rw [Nat.one_shiftLeft]
  have key : n / 2 ^ min drop (n.log2 + 2) = n / 2 ^ drop ∧ n % 2 ^ min drop (n.log2 + 2) = n % 2 ^ drop := by
    by_cases h : drop ≤ n.log2 + 2
    · rw [Nat.min_eq_left h]; exact ⟨rfl, rfl⟩
    · have h1 : n < 2 ^ (n.log2 + 1) := Nat.lt_log2_self
      have h2 : n < 2 ^ (n.log2 + 2) := Nat.lt_of_lt_of_le h1 (Nat.pow_le_pow_right (by omega) (by omega))
      have h3 : n < 2 ^ drop := Nat.lt_of_lt_of_le h1 (Nat.pow_le_pow_right (by omega) (by omega))
      rw [Nat.min_eq_right (by omega), Nat.div_eq_of_lt h2, Nat.div_eq_of_lt h3, Nat.mod_eq_of_lt h2, Nat.mod_eq_of_lt h3]; exact ⟨rfl, rfl⟩
  rw [key.1, key.2]
  congr 1
  cases s <;> by_cases h : n % 2 ^ drop = 0 <;> simp [h]

/-- The quotient and the rest of a finite double's datum. -/
theorem quot_fin {m : Nat} {i : Int} (hi : -1074 ≤ i) : (m <<< i.toNat) / 2 ^ (-i).toNat = m * 2 ^ (i + 1074).toNat / U ∧ ((m <<< i.toNat) % 2 ^ (-i).toNat = 0 ↔ m * 2 ^ (i + 1074).toNat % U = 0) := by
  rw [Nat.shiftLeft_eq]
  by_cases h : 0 ≤ i
  · obtain ⟨K, hK⟩ : ∃ K : Nat, K = 1074 := ⟨_, rfl⟩
    rw [U_eq K hK, show (-i).toNat = 0 by omega, Nat.pow_zero, Nat.div_one, Nat.mod_one, show (i + 1074).toNat = i.toNat + K by omega, Nat.pow_add, ← Nat.mul_assoc, Nat.mul_div_cancel _ (Nat.two_pow_pos _), Nat.mul_mod_left]
    exact ⟨rfl, Iff.rfl⟩
  · rw [U_eq ((-i).toNat + (i + 1074).toNat) (by omega), show i.toNat = 0 by omega, Nat.pow_zero, Nat.mul_one, Nat.pow_add, Nat.mul_div_mul_right _ _ (Nat.two_pow_pos _), Nat.mul_mod_mul_right]
    refine ⟨rfl, ?_⟩
    have hp := Nat.two_pow_pos (i + 1074).toNat
    constructor
    · intro e; rw [e, Nat.zero_mul]
    · intro e
      rcases Nat.mul_eq_zero.1 e with e | e
      · exact e
      · omega

/-- A whole number with its sign as a double. -/
theorem whole_write (s : Bool) (c : Nat) (h : c < 9007199254740992) : ∃ z, double.write (.number s c 0) = z ∧ Fl.Fin z ∧ SV (sr z) = sgn s c * (U : Int) := by
  obtain ⟨K, hK⟩ : ∃ K : Nat, K = 1074 := ⟨_, rfl⟩
  have hU := U_eq K hK
  have hp := U_pos
  have ha : (sgn s c * (U : Int)).natAbs = c * 2 ^ K := by rw [Int.natAbs_mul, Int.natAbs_natCast, sgn_natAbs, hU]
  obtain ⟨z, hz, h1, h2, h3, _⟩ := write_number s c 0 (by omega) (sgn s c * (U : Int)) (by
      rw [ha, Int.natCast_mul, show ((0 : Int) + 1074).toNat = K by omega]) (by
      intro h0
      have hc : c ≠ 0 := by rintro rfl; rw [sgn_zero, Int.zero_mul] at h0; exact h0 rfl
      cases s
      · rw [sgn_false]
        have := Int.mul_nonneg (show (0 : Int) ≤ c by omega) (show (0 : Int) ≤ U by omega)
        exact (decide_eq_false (by omega)).symm
      · rw [sgn_true]
        exact (decide_eq_true (Int.mul_neg_of_neg_of_pos (by omega) (by omega))).symm)
  obtain ⟨e1, e2⟩ := mval_N c K h (by omega)
  have hab := sr_abs z
  have hr : rung z = N (c * 2 ^ K) 0 := by
    rw [← hab, h3, Rnd, sgn_natAbs, ha]
  refine ⟨z, hz, ⟨h1, by rw [hr]; exact e2⟩, ?_⟩
  rw [h3, ← sgn_mul, Rnd_sgn, ← sgn_SV, hU, e1]

theorem down_word {x : Nat} (hx : Num x) (hn : nearR (sr x)) : ∃ m i z, FloatKind.f64.decode x = .number (neg x) m i ∧ FloatKind.f64.encode ((Ieee.Datum.number (neg x) m i).integral .down) = z ∧ IsInt z (downOf (sr x)) := by
  have hf := near_fin hx hn
  obtain ⟨m, i, ex, hi, _, _, hm⟩ := read_fin x hf.2
  obtain ⟨q1, q2⟩ := quot_fin (m := m) hi
  rw [hm] at q1 q2
  have hU := U_pos
  have hq := near_quot hn
  have hdm := Nat.div_add_mod (mval (rung x)) U
  have hml := Nat.mod_lt (mval (rung x)) hU
  have hs := SV_sgn x
  obtain ⟨c, hc⟩ : ∃ c, Toward.down.cut (neg x) (m <<< i.toNat) (-i).toNat = c := ⟨_, rfl⟩
  have hc' := hc
  rw [cut_down, q1] at hc'
  obtain ⟨z, hz, hz1, hz2⟩ := whole_write (neg x) c (by rw [← hc']; split <;> omega)
  refine ⟨m, i, z, ex, ?_, hz1, ?_⟩
  · show double.write (.number (neg x) (Toward.down.cut (neg x) (m <<< i.toNat) (-i).toNat) 0) = z
    rw [hc]; exact hz
  · rw [hz2]
    congr 1
    symm
    have hU' : (0 : Int) < U := by omega
    rw [downOf]
    rw [hs]
    generalize mval (rung x) = M at *
    generalize M / U = q at *
    have e : ((U * q : Nat) : Int) = (q : Int) * (U : Int) := by rw [Int.natCast_mul, Int.mul_comm]
    cases hg : neg x
    · rw [hg] at hc'
      rw [if_neg (fun k => Bool.noConfusion k.1), Nat.add_zero] at hc'
      rw [sgn_false, sgn_false, ← hc']
      refine floor_of (by omega) (by rw [Int.add_mul, Int.one_mul]; omega)
    · rw [hg] at hc'
      rw [sgn_true, sgn_true]
      by_cases hr : M % U = 0
      · rw [if_neg (fun k => k.2 (q2.2 hr)), Nat.add_zero] at hc'
        rw [← hc']
        refine floor_of (by rw [Int.neg_mul]; omega) (by rw [Int.add_mul, Int.one_mul, Int.neg_mul]; omega)
      · rw [if_pos ⟨rfl, fun k => hr (q2.1 k)⟩] at hc'
        rw [← hc']
        refine floor_of (by rw [Int.neg_mul, Int.natCast_add, Int.add_mul]; omega) (by rw [show -((q + 1 : Nat) : Int) + 1 = -(q : Int) by omega, Int.neg_mul]; omega)

theorem up_word {x : Nat} (hx : Num x) (hn : nearR (sr x)) : ∃ m i z, FloatKind.f64.decode x = .number (neg x) m i ∧ FloatKind.f64.encode ((Ieee.Datum.number (neg x) m i).integral .up) = z ∧ IsInt z (upOf (sr x)) := by
  have hf := near_fin hx hn
  obtain ⟨m, i, ex, hi, _, _, hm⟩ := read_fin x hf.2
  obtain ⟨q1, q2⟩ := quot_fin (m := m) hi
  rw [hm] at q1 q2
  have hU := U_pos
  have hq := near_quot hn
  have hdm := Nat.div_add_mod (mval (rung x)) U
  have hml := Nat.mod_lt (mval (rung x)) hU
  have hs := SV_sgn x
  obtain ⟨c, hc⟩ : ∃ c, Toward.up.cut (neg x) (m <<< i.toNat) (-i).toNat = c := ⟨_, rfl⟩
  have hc' := hc
  rw [cut_up, q1] at hc'
  obtain ⟨z, hz, hz1, hz2⟩ := whole_write (neg x) c (by rw [← hc']; split <;> omega)
  refine ⟨m, i, z, ex, ?_, hz1, ?_⟩
  · show double.write (.number (neg x) (Toward.up.cut (neg x) (m <<< i.toNat) (-i).toNat) 0) = z
    rw [hc]; exact hz
  · rw [hz2]
    congr 1
    rw [upOf, hs]
    generalize mval (rung x) = M at *
    generalize M / U = q at *
    have hU' : (0 : Int) < U := by omega
    have e : ((U * q : Nat) : Int) = (q : Int) * (U : Int) := by rw [Int.natCast_mul, Int.mul_comm]
    have turn : ∀ a : Int, -(sgn (neg x) M) / (U : Int) = -a → a = -(-(sgn (neg x) M) / (U : Int)) := fun a h => by omega
    apply turn
    cases hg : neg x
    · rw [hg] at hc'
      rw [sgn_false, sgn_false]
      by_cases hr : M % U = 0
      · rw [if_neg (fun k => k.2 (q2.2 hr)), Nat.add_zero] at hc'
        rw [← hc']
        refine floor_of (by rw [Int.neg_mul]; omega) (by rw [Int.add_mul, Int.one_mul, Int.neg_mul]; omega)
      · rw [if_pos ⟨rfl, fun k => hr (q2.1 k)⟩] at hc'
        rw [← hc']
        refine floor_of (by rw [Int.neg_mul, Int.natCast_add, Int.add_mul]; omega) (by rw [show -((q + 1 : Nat) : Int) + 1 = -(q : Int) by omega, Int.neg_mul]; omega)
    · rw [hg] at hc'
      rw [if_neg (fun k => Bool.noConfusion k.1), Nat.add_zero] at hc'
      rw [sgn_true, sgn_true, ← hc', Int.neg_neg, Int.neg_neg]
      refine floor_of (by omega) (by rw [Int.add_mul, Int.one_mul]; omega)

theorem run_archFloor {x m : Nat} {i : Int} {z : Nat} (h : FloatKind.f64.decode x = .number (neg x) m i) (hz : FloatKind.f64.encode ((Ieee.Datum.number (neg x) m i).integral .down) = z) (w : World) :
    (callFunc 42 #[.float .f64 x]).run Try.prog w = .ok (.value (.float .f64 z)) w := by
  have key : Go.Extern.MathFloor.toIntegral "math.archFloor" .down #[.float .f64 x] = pure (.float .f64 z) := by
    delta Go.Extern.MathFloor.toIntegral
    conv => lhs; whnf
    rw [h, ← hz]
  rw [run_callFunc_extern Try.func42 (by kernel_rfl) (by kernel_rfl) (by kernel_rfl) (e := Go.Extern.MathFloor.toIntegral "math.archFloor" .down) (by kernel_rfl), key]
  rfl
theorem run_archCeil {x m : Nat} {i : Int} {z : Nat} (h : FloatKind.f64.decode x = .number (neg x) m i) (hz : FloatKind.f64.encode ((Ieee.Datum.number (neg x) m i).integral .up) = z) (w : World) :
    (callFunc 44 #[.float .f64 x]).run Try.prog w = .ok (.value (.float .f64 z)) w := by
  have key : Go.Extern.MathFloor.toIntegral "math.archCeil" .up #[.float .f64 x] = pure (.float .f64 z) := by
    delta Go.Extern.MathFloor.toIntegral
    conv => lhs; whnf
    rw [h, ← hz]
  rw [run_callFunc_extern Try.func44 (by kernel_rfl) (by kernel_rfl) (by kernel_rfl) (e := Go.Extern.MathFloor.toIntegral "math.archCeil" .up) (by kernel_rfl), key]
  rfl


theorem mfloor_any (x : Nat) (hx : Num x) (hn : nearR (sr x)) (w : World) :
    Calls Try.prog 28 #[.float .f64 x] w fun e w' => ∃ z, e = .returned (.float .f64 z) ∧ IsInt z (downOf (sr x)) ∧ w = w' := by
  obtain ⟨m, i, z, h1, h2, h3⟩ := down_word hx hn
  have h4 : ∀ w, (callFunc 42 #[.float .f64 x]).run Try.prog w = .ok (.value (.float .f64 z)) w := run_archFloor h1 h2
  have H3 := Lib.hid h3; clear h3 h1 h2 hx hn
  go_enter Try.func28, Try.ntmps28
  go_wp2
  go_ret
  exact ⟨_, rfl, H3.out, rfl⟩
theorem mceil_any (x : Nat) (hx : Num x) (hn : nearR (sr x)) (w : World) :
    Calls Try.prog 32 #[.float .f64 x] w fun e w' => ∃ z, e = .returned (.float .f64 z) ∧ IsInt z (upOf (sr x)) ∧ w = w' := by
  obtain ⟨m, i, z, h1, h2, h3⟩ := up_word hx hn
  have h4 : ∀ w, (callFunc 44 #[.float .f64 x]).run Try.prog w = .ok (.value (.float .f64 z)) w := run_archCeil h1 h2
  have H3 := Lib.hid h3; clear h3 h1 h2 hx hn
  go_enter Try.func32, Try.ntmps32
  go_wp2
  go_ret
  exact ⟨_, rfl, H3.out, rfl⟩

set_option maxHeartbeats 1000000 in
theorem isinf_any (x : Nat) (hx : Num x) (w : World) :
    Calls Try.prog 40 #[.float .f64 x, .int .i64 0] w fun e w' => e = .returned (.bool (decide (9218868437227405311 < rung x))) ∧ w = w' := by
  have HA := Lib.hid (abs_any x hx.1 w)
  have hr : Num (rung x) := ⟨by have := rung_lt x; omega, by rw [(sr_rung x).2]; exact hx.2⟩
  have h1 : Num 9218868437227405311 := by unfold Num; decide
  have e1 : sr 9218868437227405311 = 9218868437227405311 := by decide
  have hc := gt_num hr h1
  rw [(sr_rung x).1, e1] at hc
  have e2 : decide ((9218868437227405311 : Int) < (rung x : Int)) = decide (9218868437227405311 < rung x) := by rw [decide_eq_decide]; omega
  rw [e2] at hc
  generalize decide (9218868437227405311 < rung x) = b at *
  clear hr h1 e1 e2 hx
  go_enter Try.func40, Try.ntmps40
  go_wp2_with fail
  refine HA.out.mono ?_
  rintro e w' ⟨rfl, rfl⟩
  go_wp2
  go_ret
  exact ⟨rfl, rfl⟩
end Go.Proofs.Ytidokfbjfdkfdaa
