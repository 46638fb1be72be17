/-
  A double's word: its sign and rung; what it stands for; the order of two words; sums, differences, tenfold, half.
-/
import Derived.Test.YtidokfbjfdkfdaaFlA
import Derived.Laws.FloatBits
namespace Go.Proofs.Ytidokfbjfdkfdaa.Fl
open Ieee

def neg (w : Nat) : Bool := w / 9223372036854775808 % 2 == 1
def rung (w : Nat) : Nat := w % 9223372036854775808
def sgn (b : Bool) (n : Nat) : Int := if b then -(n : Int) else n
/-- The word as an integer: its rung, with the sign. -/
def sr (w : Nat) : Int := sgn (neg w) (rung w)
/-- What an integer of such a kind stands for, in units of the least double. -/
def SV (r : Int) : Int := sgn (decide (r < 0)) (mval r.natAbs)
/-- The rung, with its sign, that is nearest to T. -/
def Rnd (T : Int) : Int := sgn (decide (T < 0)) (N T.natAbs 0)

theorem sW : double.signWeight = 9223372036854775808 := by decide
theorem bin : double.binade = 4503599627370496 := by decide
theorem inf : double.infRung = 9218868437227405312 := by decide
theorem least : double.leastPlace = -1074 := by decide
theorem fb : double.fractionBits = 52 := rfl

theorem sgn_false (n : Nat) : sgn false n = n := rfl
theorem sgn_true (n : Nat) : sgn true n = -(n : Int) := rfl
theorem sgn_zero (b : Bool) : sgn b 0 = 0 := by cases b <;> rfl
theorem sgn_natAbs (b : Bool) (n : Nat) : (sgn b n).natAbs = n := by cases b <;> simp [sgn]

theorem read_eq (w : Nat) : double.read w = if rung w < 4503599627370496 then .number (neg w) (rung w) (-1074) else if rung w < 9218868437227405312 then .number (neg w) (4503599627370496 + rung w % 4503599627370496) (-1074 + (rung w / 4503599627370496 - 1 : Nat))
    else if rung w = 9218868437227405312 then .infinity (neg w) else .nan (neg w) (rung w - 9218868437227405312) := by
  unfold Format.read
  simp only [sW, bin, inf, least]
  rfl
attribute [local irreducible] N E mval top

theorem read_fin (w : Nat) (h : rung w < 9218868437227405312) : ∃ m p, double.read w = .number (neg w) m p ∧ -1074 ≤ p ∧ p ≤ 971 ∧ m < 9007199254740992 ∧ m * 2 ^ (p + 1074).toNat = mval (rung w) := by
  rw [read_eq]
  by_cases h1 : rung w < 4503599627370496
  · exact ⟨_, _, by rw [if_pos h1], by omega, by omega, by omega, by rw [mval, if_pos h1]; simp⟩
  · refine ⟨_, _, by rw [if_neg h1, if_pos h], by omega, by omega, by omega, ?_⟩
    rw [mval, if_neg h1]
    congr 2
    omega
theorem read_inf (w : Nat) (h : rung w = 9218868437227405312) : double.read w = .infinity (neg w) := by
  rw [read_eq, if_neg (by omega), if_neg (by omega), if_pos h]
theorem read_nan (w : Nat) (h : 9218868437227405312 < rung w) : ∃ f, double.read w = .nan (neg w) f :=
  ⟨_, by rw [read_eq, if_neg (by omega), if_neg (by omega), if_neg (by omega)]⟩

theorem signed_eq (b : Bool) (m up : Nat) : signed b m up = sgn b (m * 2 ^ up) := by
  unfold signed sgn; rw [Nat.shiftLeft_eq]
theorem sgn_mul (b : Bool) (m k : Nat) : sgn b (m * k) = sgn b m * (k : Int) := by
  cases b <;> simp [sgn]
  exact (Int.neg_mul ..).symm

theorem cmp_congr {a b c d : Int} (h1 : a < b ↔ c < d) (h2 : a = b ↔ c = d) : compare a b = compare c d := by
  simp only [compare, compareOfLessAndEq, h1, h2]

theorem cmp_lt {a b : Int} (h : a < b) : compare a b = .lt := by simp [compare, compareOfLessAndEq, h]
theorem cmp_eq {a b : Int} (h : a = b) : compare a b = .eq := by subst h; simp [compare, compareOfLessAndEq]
theorem cmp_gt {a b : Int} (h : b < a) : compare a b = .gt := by
  simp only [compare, compareOfLessAndEq]
  rw [if_neg (by omega), if_neg (by omega)]
theorem sgn_bound (b : Bool) (n : Nat) : -(n : Int) ≤ sgn b n ∧ sgn b n ≤ n := by cases b <;> simp [sgn] <;> omega

theorem mval_lt_iff {a b : Nat} (ha : a ≤ 9218868437227405312) (hb : b ≤ 9218868437227405312) : mval a < mval b ↔ a < b := by
  refine ⟨fun h => Nat.lt_of_not_le fun hle => ?_, mval_lt hb⟩
  rcases Nat.lt_or_eq_of_le hle with h1 | h1
  · have := mval_lt ha h1; omega
  · subst h1; omega
theorem mval_inj {a b : Nat} (ha : a ≤ 9218868437227405312) (hb : b ≤ 9218868437227405312) : mval a = mval b ↔ a = b := by
  refine ⟨fun h => ?_, fun h => by rw [h]⟩
  have h1 := mval_lt_iff ha hb
  have h2 := mval_lt_iff hb ha
  omega
theorem mval_pos {a : Nat} (ha : a ≤ 9218868437227405312) : 0 < mval a ↔ 0 < a := by
  have := mval_lt_iff (a := 0) (b := a) (by omega) ha
  rwa [mval_zero] at this

theorem sgn_lt {s t : Bool} {a b : Nat} (ha : a ≤ 9218868437227405312) (hb : b ≤ 9218868437227405312) : sgn s (mval a) < sgn t (mval b) ↔ sgn s a < sgn t b := by
  have h1 := mval_lt_iff ha hb
  have h2 := mval_lt_iff hb ha
  have h3 := mval_pos ha
  have h4 := mval_pos hb
  generalize mval a = x at *
  generalize mval b = y at *
  cases s <;> cases t <;> simp [sgn] <;> omega
theorem sgn_inj {s t : Bool} {a b : Nat} (ha : a ≤ 9218868437227405312) (hb : b ≤ 9218868437227405312) : sgn s (mval a) = sgn t (mval b) ↔ sgn s a = sgn t b := by
  have h1 := sgn_lt (s := s) (t := t) ha hb
  have h2 := sgn_lt (s := t) (t := s) hb ha
  omega

theorem rung_lt (w : Nat) : rung w < 9223372036854775808 := Nat.mod_lt _ (by omega)
theorem sr_abs (w : Nat) : (sr w).natAbs = rung w := sgn_natAbs _ _
/-- What a word stands for is told by its integer. -/
theorem sgn_SV (s : Bool) (a : Nat) : sgn s (mval a) = SV (sgn s a) := by
  unfold SV
  rw [sgn_natAbs]
  by_cases h : a = 0
  · subst h
    rw [sgn_zero, mval_zero, sgn_zero, sgn_zero]
  · cases s
    · rw [decide_eq_false (by simp [sgn])]
    · rw [decide_eq_true (by simp [sgn]; omega)]

theorem scaled (b : Bool) (m : Nat) (p base : Int) (h1 : base ≤ p) (h2 : -1074 ≤ base) : sgn b (m * 2 ^ (p - base).toNat) * ((2 ^ (base + 1074).toNat : Nat) : Int) = sgn b (m * 2 ^ (p + 1074).toNat) := by
  rw [← sgn_mul]
  congr 1
  rw [Nat.mul_assoc, ← Nat.pow_add]
  congr 2
  omega

theorem cmp_scale (a b : Int) (j : Nat) : compare a b = compare (a * ((2 ^ j : Nat) : Int)) (b * ((2 ^ j : Nat) : Int)) := by
  have hj : (0 : Int) < ((2 ^ j : Nat) : Int) := by have := Nat.two_pow_pos j; omega
  refine cmp_congr ⟨fun h => Int.mul_lt_mul_of_pos_right h hj, fun h => Int.lt_of_mul_lt_mul_right h (by omega)⟩ ⟨fun h => by rw [h], fun h => Int.eq_of_mul_eq_mul_right (by omega) h⟩

/-- The order of two words that are numbers. -/
theorem order_eq (x y : Nat) (hx : rung x ≤ 9218868437227405312) (hy : rung y ≤ 9218868437227405312) : double.order x y = some (compare (sr x) (sr y)) := by
  unfold Format.order
  rcases Nat.lt_or_eq_of_le hx with fx | ix
  · obtain ⟨m, p, ex, hp, _, _, hm⟩ := read_fin x fx
    rcases Nat.lt_or_eq_of_le hy with fy | iy
    · obtain ⟨n, q, ey, hq, _, _, hn⟩ := read_fin y fy
      rw [ex, ey]
      show some (compare (signed (neg x) m (p - min p q).toNat) (signed (neg y) n (q - min p q).toNat)) = _
      rw [signed_eq, signed_eq, cmp_scale _ _ (min p q + 1074).toNat, scaled _ _ _ _ (by omega) (by omega), scaled _ _ _ _ (by omega) (by omega), hm, hn]
      exact congrArg some (cmp_congr (sgn_lt hx hy) (sgn_inj hx hy))
    · rw [ex, read_inf y iy]
      show some (if neg y then Ordering.gt else .lt) = _
      congr 1
      unfold sr
      rw [iy]
      have hb := sgn_bound (neg x) (rung x)
      generalize sgn (neg x) (rung x) = r at *
      cases neg y
      · exact (cmp_lt (by simp [sgn]; omega)).symm
      · exact (cmp_gt (by simp [sgn]; omega)).symm
  · rcases Nat.lt_or_eq_of_le hy with fy | iy
    · obtain ⟨n, q, ey, hq, _, _, hn⟩ := read_fin y fy
      rw [ey, read_inf x ix]
      show some (if neg x then Ordering.lt else .gt) = _
      congr 1
      unfold sr
      rw [ix]
      have hb := sgn_bound (neg y) (rung y)
      generalize sgn (neg y) (rung y) = r at *
      cases neg x
      · exact (cmp_gt (by simp [sgn]; omega)).symm
      · exact (cmp_lt (by simp [sgn]; omega)).symm
    · rw [read_inf x ix, read_inf y iy]
      show some (compare (neg y).toNat (neg x).toNat) = _
      congr 1
      unfold sr
      rw [ix, iy]
      cases neg y <;> cases neg x <;> rfl
theorem order_nan (x y : Nat) (h : 9218868437227405312 < rung x ∨ 9218868437227405312 < rung y) : double.order x y = none := by
  unfold Format.order
  rcases h with h | h
  · obtain ⟨f, e⟩ := read_nan x h
    rw [e]; rfl
  · obtain ⟨f, e⟩ := read_nan y h
    rw [e]
    cases double.read x <;> rfl

theorem neg_word (s : Bool) (r : Nat) (h : r ≤ 9218868437227405312) : neg (double.word s r) = s := by
  unfold Format.word neg
  rw [sW]
  cases s
  · rw [if_neg (by simp), beq_eq_false_iff_ne]; omega
  · rw [if_pos rfl, beq_iff_eq]; omega
theorem rung_word (s : Bool) (r : Nat) (h : r ≤ 9218868437227405312) : rung (double.word s r) = r := by
  unfold Format.word rung
  rw [sW]
  cases s
  · rw [if_neg (by simp)]; omega
  · rw [if_pos rfl]; omega
theorem sr_word (s : Bool) (r : Nat) (h : r ≤ 9218868437227405312) : sr (double.word s r) = sgn s r := by
  rw [sr, neg_word s r h, rung_word s r h]

/-- The word nearest to a number. -/
theorem nearest_eq (s : Bool) (mag : Nat) (place : Int) (k : Nat) (h : -1074 - k ≤ place) : double.nearest s mag place = double.word s (N (mag * 2 ^ (place + 1074 + k).toNat) k) := by
  unfold Format.nearest
  by_cases hz : mag = 0
  · subst hz
    rw [if_pos rfl, Nat.zero_mul, N_zero]
  · rw [if_neg hz]
    obtain ⟨b, hb⟩ : ∃ b : Nat, (place + 1074 + k).toNat = b := ⟨_, rfl⟩
    rw [hb]
    unfold N
    have hpl : place = b - 1074 - k := by omega
    simp only [fb, least, inf, bin]
    have ht : top (mag * 2 ^ b) k = max (mag.log2 + b - 52) k := by unfold top; rw [log2_scale hz]
    have hlast : max (place + (mag.log2 : Int) - ((52 : Nat) : Int)) (-1074) = (top (mag * 2 ^ b) k : Int) - 1074 - k := by rw [ht]; omega
    rw [hlast]
    generalize top (mag * 2 ^ b) k = t at *
    rw [Nat.shiftLeft_eq, cut_even]
    have e1 : ((t : Int) - 1074 - k - -1074).toNat = t - k := by omega
    have e2 : (place - ((t : Int) - 1074 - k)).toNat = b - t := by omega
    have e3 : ((t : Int) - 1074 - k - place).toNat = t - b := by omega
    have e4 : E (mag * 2 ^ (b - t)) (t - b) = E (mag * 2 ^ b) t := by
      by_cases h2 : t ≤ b
      · have := E_scale (mag * 2 ^ (b - t)) 0 t
        rw [Nat.mul_assoc, ← Nat.pow_add, show b - t + t = b by omega, Nat.zero_add] at this
        rw [this, show t - b = 0 by omega]
      · have := E_scale mag (t - b) b
        rw [show t - b + b = t by omega] at this
        rw [this, show b - t = 0 by omega, Nat.pow_zero, Nat.mul_one]
    rw [e1, e2, e3, e4]

theorem N_Rnd (T : Int) : Rnd T = sgn (decide (T < 0)) (N T.natAbs 0) := rfl
theorem Rnd_le (T : Int) : -9218868437227405312 ≤ Rnd T ∧ Rnd T ≤ 9218868437227405312 := by
  have h := N_le T.natAbs 0
  have := sgn_bound (decide (T < 0)) (N T.natAbs 0)
  unfold Rnd
  generalize N T.natAbs 0 = n at *
  omega
theorem Rnd_nonneg {T : Int} (h : 0 ≤ T) : Rnd T = (N T.natAbs 0 : Nat) := by
  rw [Rnd, decide_eq_false (by omega), sgn_false]
theorem Rnd_neg {T : Int} (h : T < 0) : Rnd T = -((N T.natAbs 0 : Nat) : Int) := by
  rw [Rnd, decide_eq_true h, sgn_true]
theorem Rnd_mono {S T : Int} (h : S ≤ T) : Rnd S ≤ Rnd T := by
  by_cases hS : S < 0
  · rw [Rnd_neg hS]
    by_cases hT : T < 0
    · rw [Rnd_neg hT]
      have := N_mono (show T.natAbs ≤ S.natAbs by omega) 0
      exact Int.neg_le_neg (Int.ofNat_le.2 this)
    · rw [Rnd_nonneg (by omega)]
      exact Int.le_trans (Int.neg_nonpos_of_nonneg (Int.natCast_nonneg _)) (Int.natCast_nonneg _)
  · rw [Rnd_nonneg (by omega), Rnd_nonneg (by omega)]
    have := N_mono (show S.natAbs ≤ T.natAbs by omega) 0
    exact Int.ofNat_le.2 this
theorem SV_natAbs (r : Int) : (SV r).natAbs = mval r.natAbs := sgn_natAbs _ _
theorem SV_zero : SV 0 = 0 := by rw [SV, show (0 : Int).natAbs = 0 from rfl, mval_zero, sgn_zero]
theorem Rnd_zero : Rnd 0 = 0 := by rw [Rnd, show (0 : Int).natAbs = 0 from rfl, N_zero, sgn_zero]
theorem SV_lt {r s : Int} (hr : -9218868437227405312 ≤ r ∧ r ≤ 9218868437227405312) (hs : -9218868437227405312 ≤ s ∧ s ≤ 9218868437227405312) : SV r < SV s ↔ r < s := by
  unfold SV
  rw [sgn_lt (by omega) (by omega)]
  have e : ∀ t : Int, sgn (decide (t < 0)) t.natAbs = t := by
    intro t
    by_cases h : t < 0
    · rw [decide_eq_true h]; simp [sgn]; omega
    · rw [decide_eq_false h]; simp [sgn]; omega
  rw [e, e]
theorem SV_le {r s : Int} (hr : -9218868437227405312 ≤ r ∧ r ≤ 9218868437227405312) (hs : -9218868437227405312 ≤ s ∧ s ≤ 9218868437227405312) : SV r ≤ SV s ↔ r ≤ s := by
  have := SV_lt hs hr
  omega
/-- Rounding leaves what is a double. -/
theorem Rnd_SV {r : Int} (h : -9218868437227405312 ≤ r ∧ r ≤ 9218868437227405312) : Rnd (SV r) = r := by
  have e := N_exact r.natAbs (by omega) 0
  rw [Nat.pow_zero, Nat.mul_one] at e
  unfold Rnd
  rw [SV_natAbs, e]
  have h0 := SV_lt h (s := 0) (by omega)
  rw [SV_zero] at h0
  by_cases hn : r < 0
  · rw [decide_eq_true (h0.2 hn)]; simp [sgn]; omega
  · rw [decide_eq_false (fun x => hn (h0.1 x))]; simp [sgn]; omega

/-- The word of a number with its sign. -/
theorem write_number (s : Bool) (mag : Nat) (place : Int) (h : -1074 ≤ place) (T : Int) (hT : (mag : Int) * ((2 ^ (place + 1074).toNat : Nat) : Int) = T.natAbs) (hs : T ≠ 0 → s = decide (T < 0)) :
    ∃ z, double.write (.number s mag place) = z ∧ z < 18446744073709551616 ∧ rung z ≤ 9218868437227405312 ∧ sr z = Rnd T ∧ neg z = s := by
  have e := nearest_eq s mag place 0 (by omega)
  have hT' : mag * 2 ^ (place + 1074).toNat = T.natAbs := Int.ofNat_inj.1 (by rw [Int.natCast_mul]; exact hT)
  rw [show (place + 1074 + ((0 : Nat) : Int)) = place + 1074 by omega, hT'] at e
  have hN := N_le T.natAbs 0
  refine ⟨_, rfl, ?_, ?_, ?_, ?_⟩
  · exact Nat.lt_of_lt_of_le (double.write_lt _) (by decide)
  · show rung (double.nearest s mag place) ≤ _
    rw [e, rung_word _ _ hN]; exact hN
  · show sr (double.nearest s mag place) = _
    rw [e, sr_word _ _ hN]
    by_cases h0 : T = 0
    · subst h0
      rw [show (0 : Int).natAbs = 0 from rfl, N_zero, sgn_zero, Rnd_zero]
    · rw [hs h0, Rnd]
  · show neg (double.nearest s mag place) = _
    rw [e, neg_word _ _ hN]

end Go.Proofs.Ytidokfbjfdkfdaa.Fl
