/-
  linesideref04: the contracts of none, down, up, far, Whole, below, Less, Same, for whatever doubles.
-/
import Derived.Test.YtidokfbjfdkfdaaFlD
import Derived.WalkLawsBesides
namespace Go.Proofs.Ytidokfbjfdkfdaa
open Go.RowKit Fl
open Ieee (double)
attribute [local irreducible] N E mval top U

set_option maxHeartbeats 1000000 in
theorem rnone_any (x : Nat) (hw : (Lit.float .f64 x).wf = true) (w : World) :
    Calls Try.prog 29 #[.float .f64 x] w fun e w' => e = .returned (.bool (nanB x)) ∧ w = w' := by
  have h := ne_self x hw
  go_enter Try.func29, Try.ntmps29
  go_wp2
  go_ret
  exact ⟨by rw [← h]; rfl, rfl⟩

def nearR (r : Int) : Prop := -4787326403894837248 ≤ r ∧ r ≤ 4787326403894837248
instance (r : Int) : Decidable (nearR r) := inferInstanceAs (Decidable (_ ∧ _))

set_option maxHeartbeats 1000000 in
theorem rdown_any (x : Nat) (hx : Num x) (hn : nearR (sr x)) (w : World) :
    Calls Try.prog 31 #[.float .f64 x] w fun e w' => e = .returned (.int .i64 (downOf (sr x))) ∧ w = w' := by
  obtain ⟨n, z, h1, h2, h3, h4, h5, h6, h7, _, _⟩ := trunc_near hx hn.1 hn.2
  have hc := gt_num h5 hx
  have e1 : ∀ w, (convert 22 3 (.float .f64 x)).run Try.prog w = .ok (.int .i64 n) w := fun w => run_convert_float_int w _ _ _ _ _ _ (by kernel_rfl) (by kernel_rfl) h1
  by_cases hl : sr x < sr z
  · rw [h6 hl]
    rw [decide_eq_true hl] at hc
    have hw1 : wrap64 (n - 1) = n - 1 := IntWalk.wrap64_in _ (by omega)
    clear h6 h7 h1
    go_enter Try.func31, Try.ntmps31
    go_wp2
    go_ret
    exact ⟨rfl, rfl⟩
  · rw [h7 hl]
    rw [decide_eq_false hl] at hc
    clear h6 h7 h1
    go_enter Try.func31, Try.ntmps31
    go_wp2
    go_ret
    exact ⟨rfl, rfl⟩

set_option maxHeartbeats 1000000 in
theorem rup_any (x : Nat) (hx : Num x) (hn : nearR (sr x)) (w : World) :
    Calls Try.prog 33 #[.float .f64 x] w fun e w' => e = .returned (.int .i64 (upOf (sr x))) ∧ w = w' := by
  obtain ⟨n, z, h1, h2, h3, h4, h5, _, _, h6, h7⟩ := trunc_near hx hn.1 hn.2
  have hc := lt_num h5 hx
  have e1 : ∀ w, (convert 22 3 (.float .f64 x)).run Try.prog w = .ok (.int .i64 n) w := fun w => run_convert_float_int w _ _ _ _ _ _ (by kernel_rfl) (by kernel_rfl) h1
  by_cases hl : sr z < sr x
  · rw [h6 hl]
    rw [decide_eq_true hl] at hc
    have hw1 : wrap64 (n + 1) = n + 1 := IntWalk.wrap64_in _ (by omega)
    clear h6 h7 h1
    go_enter Try.func33, Try.ntmps33
    go_wp2
    go_ret
    exact ⟨rfl, rfl⟩
  · rw [h7 hl]
    rw [decide_eq_false hl] at hc
    clear h6 h7 h1
    go_enter Try.func33, Try.ntmps33
    go_wp2
    go_ret
    exact ⟨rfl, rfl⟩

def farB (x : Nat) : Bool := nanB x || decide (¬ nearR (sr x))

set_option maxHeartbeats 1000000 in
theorem rfar_any (x : Nat) (hw : (Lit.float .f64 x).wf = true) (w : World) :
    Calls Try.prog 30 #[.float .f64 x] w fun e w' => e = .returned (.bool (farB x)) ∧ w = w' := by
  have hn := rnone_any x hw w
  unfold farB
  cases h : nanB x
  · rw [h] at hn
    have hx := num_of hw h
    have h1 := lt_num hx num_nfar
    have h2 := gt_num hx num_far
    rw [sr_nfar] at h1
    rw [sr_far] at h2
    have HN := Lib.hid hn; clear hn
    rw [Bool.false_or]
    by_cases k1 : sr x < -4787326403894837248
    · rw [decide_eq_true k1] at h1
      rw [decide_eq_true (show ¬ nearR (sr x) by unfold nearR; omega)]
      clear h h2 hx hw
      go_enter Try.func30, Try.ntmps30
      go_wp2_with fail
      refine HN.out.mono ?_
      rintro e w' ⟨rfl, rfl⟩
      go_wp2
      go_ret
      exact ⟨rfl, rfl⟩
    · rw [decide_eq_false k1] at h1
      have e : decide (¬ nearR (sr x)) = decide (4787326403894837248 < sr x) := by rw [decide_eq_decide]; unfold nearR; omega
      rw [e]
      generalize decide (4787326403894837248 < sr x) = b at *
      clear h hx hw e k1
      go_enter Try.func30, Try.ntmps30
      go_wp2_with fail
      refine HN.out.mono ?_
      rintro e w' ⟨rfl, rfl⟩
      go_wp2
      go_ret
      exact ⟨rfl, rfl⟩
  · rw [h] at hn
    have HN := Lib.hid hn; clear hn h hw
    go_enter Try.func30, Try.ntmps30
    go_wp2_with fail
    refine HN.out.mono ?_
    rintro e w' ⟨rfl, rfl⟩
    go_wp2
    go_ret
    exact ⟨rfl, rfl⟩

def wholeR (r : Int) : Int × Int := if nearR (tenOf r) then (downOf (tenOf r), 0) else (0, 7)
def wholeF (x : Nat) : Int × Int := if nanB x then (0, 40) else wholeR (sr x)
def pair (x : Int × Int) : Value := .tuple #[.int .i64 x.1, .int .i64 x.2]

set_option maxHeartbeats 1000000 in
theorem rwhole_any (x : Nat) (hw : (Lit.float .f64 x).wf = true) (w : World) :
    Calls Try.prog 12 #[.float .f64 x] w fun e w' => e = .returned (pair (wholeF x)) ∧ w = w' := by
  have hn := rnone_any x hw w
  unfold wholeF
  cases h : nanB x
  · rw [if_neg (by decide)]
    rw [h] at hn
    have hx := num_of hw h
    obtain ⟨y, h1, h2, h3⟩ := mul10_num hx
    have e1 : ∀ w, (binOp .mul 22 (.float .f64 x) (.float .f64 4621819117588971520)).run Try.prog w = .ok (.float .f64 y) w := fun w => run_float_arith w _ _ _ _ _ _ h1
    have hf := rfar_any y h2.wf w
    unfold wholeR
    rw [← h3]
    rw [farB, nanB_num h2, Bool.false_or] at hf
    have hd := fun hh => rdown_any y h2 hh w
    have HN := Lib.hid hn; have HF := Lib.hid hf; clear hn hf
    by_cases hr : nearR (sr y)
    · rw [if_pos hr]
      rw [decide_eq_false (fun k => k hr)] at HF
      have HD := Lib.hid (hd hr)
      clear h h1 h2 h3 hx hw hd hr
      go_enter Try.func12, Try.ntmps12
      go_wp2_with fail
      refine HN.out.mono ?_
      rintro e w' ⟨rfl, rfl⟩
      go_wp2_with fail
      refine HF.out.mono ?_
      rintro e w' ⟨rfl, rfl⟩
      go_wp2_with fail
      refine HD.out.mono ?_
      rintro e w' ⟨rfl, rfl⟩
      go_wp2
      go_ret2
      exact ⟨rfl, rfl⟩
    · rw [if_neg hr]
      rw [decide_eq_true hr] at HF
      clear h h1 h2 h3 hx hw hd hr
      go_enter Try.func12, Try.ntmps12
      go_wp2_with fail
      refine HN.out.mono ?_
      rintro e w' ⟨rfl, rfl⟩
      go_wp2_with fail
      refine HF.out.mono ?_
      rintro e w' ⟨rfl, rfl⟩
      go_wp2
      go_ret2
      exact ⟨rfl, rfl⟩
  · rw [if_pos rfl]
    rw [h] at hn
    have HN := Lib.hid hn; clear hn h hw
    go_enter Try.func12, Try.ntmps12
    go_wp2_with fail
    refine HN.out.mono ?_
    rintro e w' ⟨rfl, rfl⟩
    go_wp2
    go_ret2
    exact ⟨rfl, rfl⟩

/-- The place in the order, as an integer. -/
def key (x : Nat) : Int := if nanB x then 36893488147419103232 else 2 * sr x + (if neg x then 0 else 1)
def lessB (x y : Nat) : Bool := decide (key x < key y)
def sameB (x y : Nat) : Bool := decide (key x = key y)

theorem neg_lt {x : Nat} (h : sr x < 0) : neg x = true := by
  unfold sr at h
  cases hn : neg x
  · rw [hn, sgn_false] at h; omega
  · rfl
theorem neg_gt {x : Nat} (h : 0 < sr x) : neg x = false := by
  unfold sr at h
  cases hn : neg x
  · rfl
  · rw [hn, sgn_true] at h; omega
theorem key_num {x : Nat} (h : Num x) : key x = 2 * sr x + (if neg x then 0 else 1) := by rw [key, nanB_num h]; rfl
theorem key_nan {x : Nat} (h : nanB x = true) : key x = 36893488147419103232 := by rw [key, h]; rfl
theorem key_lt {x : Nat} (h : Num x) : key x < 36893488147419103232 := by
  rw [key_num h]
  have := h.bound
  split <;> omega
/-- The order of two numbers that aren't both zeros is that of their integers. -/
theorem less_num {x y : Nat} (hx : Num x) (hy : Num y) (h : ¬ (sr x = 0 ∧ sr y = 0)) : lessB x y = decide (sr x < sr y) := by
  unfold lessB
  rw [key_num hx, key_num hy, decide_eq_decide]
  by_cases e : sr x = sr y
  · rw [← e]
    have hn : neg x = neg y := by
      by_cases h0 : sr x < 0
      · rw [neg_lt h0, neg_lt (e ▸ h0)]
      · have h1 : 0 < sr x := by omega
        rw [neg_gt h1, neg_gt (e ▸ h1)]
    rw [hn]; omega
  · split <;> split <;> omega
/-- Of two zeros the one with a sign is less. -/
theorem less_zero {x y : Nat} (hx : Num x) (hy : Num y) (h : sr x = 0 ∧ sr y = 0) : lessB x y = (neg x && !neg y) := by
  unfold lessB
  rw [key_num hx, key_num hy, h.1, h.2]
  cases neg x <;> cases neg y <;> rfl

set_option maxHeartbeats 1000000 in
theorem rbelow_zero (x : Nat) (hx : Num x) (h0 : sr x = 0) (w : World) :
    Calls Try.prog 34 #[.float .f64 x] w fun e w' => e = .returned (.bool (neg x)) ∧ w = w' := by
  have h1 := eq_num hx num_zero
  rw [sr_zero, decide_eq_true h0] at h1
  obtain ⟨z, k1, k2, k3⟩ := inv_zero (x := x) (by have := sr_abs x; omega)
  have e1 : ∀ w, (binOp .quo 22 (.float .f64 4607182418800017408) (.float .f64 x)).run Try.prog w = .ok (.float .f64 z) w := fun w => run_float_arith w _ _ _ _ _ _ k1
  have h2 := lt_num k2 num_zero
  rw [sr_zero, k3] at h2
  rw [show decide (sgn (neg x) 9218868437227405312 < 0) = neg x by cases neg x <;> rfl] at h2
  generalize neg x = b at *
  clear hx h0 k1 k2 k3
  go_enter Try.func34, Try.ntmps34
  go_wp2
  go_ret
  exact ⟨rfl, rfl⟩

set_option maxHeartbeats 2000000 in
theorem rless_any (x y : Nat) (wx : (Lit.float .f64 x).wf = true) (wy : (Lit.float .f64 y).wf = true) (w : World) :
    Calls Try.prog 16 #[.float .f64 x, .float .f64 y] w fun e w' => e = .returned (.bool (lessB x y)) ∧ w = w' := by
  have c1 := rnone_any x wx w
  have c2 := rnone_any y wy w
  cases hx : nanB x
  · have nx := num_of wx hx
    cases hy : nanB y
    · have ny := num_of wy hy
      rw [hx] at c1
      rw [hy] at c2
      have C1 := Lib.hid c1; have C2 := Lib.hid c2; clear c1 c2
      have h1 := eq_num nx num_zero
      have h2 := eq_num ny num_zero
      rw [sr_zero] at h1 h2
      by_cases hz : sr x = 0 ∧ sr y = 0
      · rw [less_zero nx ny hz]
        rw [decide_eq_true hz.1] at h1
        rw [decide_eq_true hz.2] at h2
        have C3 := Lib.hid (rbelow_zero x nx hz.1 w)
        have C4 := Lib.hid (rbelow_zero y ny hz.2 w)
        generalize neg x = a at *
        generalize neg y = b at *
        clear hx hy hz nx ny wx wy
        cases a
        · go_enter Try.func16, Try.ntmps16
          go_wp2_with fail
          refine C1.out.mono ?_
          rintro e w' ⟨rfl, rfl⟩
          go_wp2_with fail
          refine C2.out.mono ?_
          rintro e w' ⟨rfl, rfl⟩
          go_wp2_with fail
          refine C3.out.mono ?_
          rintro e w' ⟨rfl, rfl⟩
          go_wp2_with fail
          refine C4.out.mono ?_
          rintro e w' ⟨rfl, rfl⟩
          go_wp2
          go_ret
          exact ⟨rfl, rfl⟩
        · go_enter Try.func16, Try.ntmps16
          go_wp2_with fail
          refine C1.out.mono ?_
          rintro e w' ⟨rfl, rfl⟩
          go_wp2_with fail
          refine C2.out.mono ?_
          rintro e w' ⟨rfl, rfl⟩
          go_wp2_with fail
          refine C3.out.mono ?_
          rintro e w' ⟨rfl, rfl⟩
          go_wp2_with fail
          refine C4.out.mono ?_
          rintro e w' ⟨rfl, rfl⟩
          go_wp2
          go_ret
          exact ⟨rfl, rfl⟩
      · rw [less_num nx ny hz]
        have h3 := lt_num nx ny
        generalize decide (sr x < sr y) = b at *
        by_cases z1 : sr x = 0
        · rw [decide_eq_true z1] at h1
          rw [decide_eq_false (fun k => hz ⟨z1, k⟩)] at h2
          clear hx hy hz nx ny wx wy z1
          go_enter Try.func16, Try.ntmps16
          go_wp2_with fail
          refine C1.out.mono ?_
          rintro e w' ⟨rfl, rfl⟩
          go_wp2_with fail
          refine C2.out.mono ?_
          rintro e w' ⟨rfl, rfl⟩
          go_wp2
          go_ret
          exact ⟨rfl, rfl⟩
        · rw [decide_eq_false z1] at h1
          clear hx hy hz nx ny wx wy z1 h2
          go_enter Try.func16, Try.ntmps16
          go_wp2_with fail
          refine C1.out.mono ?_
          rintro e w' ⟨rfl, rfl⟩
          go_wp2_with fail
          refine C2.out.mono ?_
          rintro e w' ⟨rfl, rfl⟩
          go_wp2
          go_ret
          exact ⟨rfl, rfl⟩
    · rw [hx] at c1
      rw [hy] at c2
      have C1 := Lib.hid c1; have C2 := Lib.hid c2; clear c1 c2
      rw [show lessB x y = true by rw [lessB, key_nan hy]; exact decide_eq_true (key_lt nx)]
      clear hx hy nx wx wy
      go_enter Try.func16, Try.ntmps16
      go_wp2_with fail
      refine C1.out.mono ?_
      rintro e w' ⟨rfl, rfl⟩
      go_wp2_with fail
      refine C2.out.mono ?_
      rintro e w' ⟨rfl, rfl⟩
      go_wp2
      go_ret
      exact ⟨rfl, rfl⟩
  · rw [show lessB x y = false by
      rw [lessB, key_nan hx]
      refine decide_eq_false ?_
      cases hy : nanB y
      · have := key_lt (num_of wy hy); omega
      · rw [key_nan hy]; omega]
    rw [hx] at c1
    generalize nanB y = b at *
    have C1 := Lib.hid c1; have C2 := Lib.hid c2; clear c1 c2
    clear hx wx wy
    go_enter Try.func16, Try.ntmps16
    go_wp2_with fail
    refine C1.out.mono ?_
    rintro e w' ⟨rfl, rfl⟩
    go_wp2_with fail
    refine C2.out.mono ?_
    rintro e w' ⟨rfl, rfl⟩
    go_wp2
    go_ret
    exact ⟨rfl, rfl⟩

theorem same_less (x y : Nat) : sameB x y = (!lessB x y && !lessB y x) := by
  unfold sameB lessB
  rw [← decide_not, ← decide_not, ← Bool.decide_and, decide_eq_decide]
  omega

set_option maxHeartbeats 1000000 in
theorem rsame_any (x y : Nat) (wx : (Lit.float .f64 x).wf = true) (wy : (Lit.float .f64 y).wf = true) (w : World) :
    Calls Try.prog 18 #[.float .f64 x, .float .f64 y] w fun e w' => e = .returned (.bool (sameB x y)) ∧ w = w' := by
  have c1 := rless_any x y wx wy w
  have c2 := rless_any y x wy wx w
  rw [same_less]
  generalize lessB x y = a at *
  generalize lessB y x = b at *
  have C1 := Lib.hid c1; have C2 := Lib.hid c2; clear c1 c2 wx wy
  cases a
  · go_enter Try.func18, Try.ntmps18
    go_wp2_with fail
    refine C1.out.mono ?_
    rintro e w' ⟨rfl, rfl⟩
    go_wp2_with fail
    refine C2.out.mono ?_
    rintro e w' ⟨rfl, rfl⟩
    go_wp2
    go_ret
    exact ⟨rfl, rfl⟩
  · go_enter Try.func18, Try.ntmps18
    go_wp2_with fail
    refine C1.out.mono ?_
    rintro e w' ⟨rfl, rfl⟩
    go_wp2_with fail
    refine C2.out.mono ?_
    rintro e w' ⟨rfl, rfl⟩
    go_wp2
    go_ret
    exact ⟨rfl, rfl⟩

end Go.Proofs.Ytidokfbjfdkfdaa
