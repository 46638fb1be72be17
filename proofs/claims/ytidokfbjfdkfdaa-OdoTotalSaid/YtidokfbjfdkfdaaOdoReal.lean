/-
  odo as landed: the contracts of inRange, Whole, Less, Same, Between, for whatever doubles.
-/
import Derived.Test.YtidokfbjfdkfdaaFlFloor
import Derived.Test.YtidokfbjfdkfdaaOdoBet
namespace Go.Proofs.Ytidokfbjfdkfdaa
open Go.RowKit Fl
open Ieee (double)
attribute [local irreducible] N E mval top U

def inB (x : Nat) : Bool := !farB x
theorem inB_num {x : Nat} (h : Num x) : inB x = decide (nearR (sr x)) := by
  rw [inB, farB, nanB_num h, Bool.false_or, decide_not, Bool.not_not]
theorem le_nan {x y : Nat} (h : nanB x = true ∨ nanB y = true) : (FloatKind.f64.format.order x y == some .lt || FloatKind.f64.format.order x y == some .eq) = false := by
  rw [ord_none h]; rfl

set_option maxHeartbeats 1000000 in
theorem oin_any (x : Nat) (hw : (Lit.float .f64 x).wf = true) (w : World) :
    Calls Try.prog 27 #[.float .f64 x] w fun e w' => e = .returned (.bool (inB x)) ∧ w = w' := by
  cases h : nanB x
  · have hx := num_of hw h
    rw [inB_num hx]
    have h1 := le_num num_nfar hx
    have h2 := le_num hx num_far
    rw [sr_nfar] at h1
    rw [sr_far] at h2
    by_cases k1 : -4787326403894837248 ≤ sr x
    · rw [decide_eq_true k1] at h1
      have e : decide (nearR (sr x)) = decide (sr x ≤ 4787326403894837248) := by rw [decide_eq_decide]; unfold nearR; omega
      rw [e]
      generalize decide (sr x ≤ 4787326403894837248) = b at *
      clear h hx hw e k1
      go_enter Try.func27, Try.ntmps27
      go_wp2
      go_ret
      exact ⟨rfl, rfl⟩
    · rw [decide_eq_false k1] at h1
      rw [decide_eq_false (show ¬ nearR (sr x) by unfold nearR; omega)]
      clear h h2 hx hw
      go_enter Try.func27, Try.ntmps27
      go_wp2
      go_ret
      exact ⟨rfl, rfl⟩
  · rw [inB, farB, h]
    have h1 := le_nan (x := 14010698440749613056) (.inr h)
    clear h hw
    go_enter Try.func27, Try.ntmps27
    go_wp2
    go_ret
    exact ⟨rfl, rfl⟩

theorem conv_int {z : Nat} {n : Int} (h : IsInt z n) (hn : -2199023255552 ≤ n ∧ n ≤ 2199023255552) (w : World) : (convert 22 3 (.float .f64 z)).run Try.prog w = .ok (.int .i64 n) w :=
  run_convert_float_int w _ _ _ _ _ _ (by kernel_rfl) (by kernel_rfl) (to_int h.1 h.2 hn)
theorem down_bound {x : Nat} (hx : Num x) (hn : nearR (sr x)) : -2199023255552 ≤ downOf (sr x) ∧ downOf (sr x) ≤ 2199023255552 := by
  obtain ⟨n, z, _, b1, b2, _, _, h1, h2, _, _⟩ := trunc_near hx hn.1 hn.2
  by_cases k : sr x < sr z
  · rw [h1 k]; omega
  · rw [h2 k]; omega
theorem up_bound {x : Nat} (hx : Num x) (hn : nearR (sr x)) : -2199023255552 ≤ upOf (sr x) ∧ upOf (sr x) ≤ 2199023255552 := by
  obtain ⟨n, z, _, b1, b2, _, _, _, _, h1, h2⟩ := trunc_near hx hn.1 hn.2
  by_cases k : sr z < sr x
  · rw [h1 k]; omega
  · rw [h2 k]; omega

set_option maxHeartbeats 1000000 in
theorem owhole_any (x : Nat) (hw : (Lit.float .f64 x).wf = true) (w : World) :
    Calls Try.prog 11 #[.float .f64 x] w fun e w' => e = .returned (pair (wholeF x)) ∧ w = w' := by
  have hn := isnan_any x hw w
  unfold wholeF
  cases h : nanB x
  · rw [if_neg (by decide)]
    rw [h] at hn
    have hx := num_of hw h
    obtain ⟨y, h1, h2, h3⟩ := mul10_num hx
    have e1 : ∀ w, (binOp .mul 22 (.float .f64 x) (.float .f64 4621819117588971520)).run Try.prog w = .ok (.float .f64 y) w := fun w => run_float_arith w _ _ _ _ _ _ h1
    have hf := oin_any y h2.wf w
    unfold wholeR
    rw [← h3]
    rw [inB_num h2] at hf
    have hd := fun hh => mfloor_any y h2 hh w
    have hb := fun hh => down_bound h2 hh
    have HN := Lib.hid hn; have HF := Lib.hid hf; clear hn hf
    by_cases hr : nearR (sr y)
    · rw [if_pos hr]
      rw [decide_eq_true hr] at HF
      have HD := Lib.hid (hd hr)
      have HB := Lib.hid (hb hr)
      generalize downOf (sr y) = D at *
      clear h h1 h2 h3 hx hw hd hr hb
      go_enter Try.func11, Try.ntmps11
      go_wp2_with fail
      refine HN.out.mono ?_
      rintro e w' ⟨rfl, rfl⟩
      go_wp2_with fail
      refine HF.out.mono ?_
      rintro e w' ⟨rfl, rfl⟩
      go_wp2_with fail
      refine HD.out.mono ?_
      rintro e w' ⟨z, rfl, hz, rfl⟩
      have e2 := conv_int hz HB.out
      clear hz
      go_wp2
      go_ret2
      exact ⟨rfl, rfl⟩
    · rw [if_neg hr]
      rw [decide_eq_false hr] at HF
      clear h h1 h2 h3 hx hw hd hr hb
      go_enter Try.func11, Try.ntmps11
      go_wp2_with fail
      refine HN.out.mono ?_
      rintro e w' ⟨rfl, rfl⟩
      go_wp2_with fail
      refine HF.out.mono ?_
      rintro e w' ⟨rfl, rfl⟩
      go_wp2
      go_ret2
      exact ⟨rfl, rfl⟩
  · rw [if_pos rfl]
    rw [h] at hn
    have HN := Lib.hid hn; clear hn h hw
    go_enter Try.func11, Try.ntmps11
    go_wp2_with fail
    refine HN.out.mono ?_
    rintro e w' ⟨rfl, rfl⟩
    go_wp2
    go_ret2
    exact ⟨rfl, rfl⟩

set_option maxHeartbeats 2000000 in
theorem oless_any (x y : Nat) (wx : (Lit.float .f64 x).wf = true) (wy : (Lit.float .f64 y).wf = true) (w : World) :
    Calls Try.prog 15 #[.float .f64 x, .float .f64 y] w fun e w' => e = .returned (.bool (lessB x y)) ∧ w = w' := by
  have c1 := isnan_any x wx w
  have c2 := isnan_any y wy w
  cases hx : nanB x
  · have nx := num_of wx hx
    rw [hx] at c1
    cases hy : nanB y
    · have ny := num_of wy hy
      rw [hy] at c2
      have C1 := Lib.hid c1; have C2 := Lib.hid c2; clear c1 c2
      have h1 := eq_num nx num_zero
      have h2 := eq_num ny num_zero
      rw [sr_zero] at h1 h2
      by_cases hz : sr x = 0 ∧ sr y = 0
      · rw [less_zero nx ny hz]
        rw [decide_eq_true hz.1] at h1
        rw [decide_eq_true hz.2] at h2
        obtain ⟨a, a1, a2, a3⟩ := inv_zero (x := x) (by have := sr_abs x; omega)
        obtain ⟨b, b1, b2, b3⟩ := inv_zero (x := y) (by have := sr_abs y; omega)
        have e1 : ∀ w, (binOp .quo 22 (.float .f64 4607182418800017408) (.float .f64 x)).run Try.prog w = .ok (.float .f64 a) w := fun w => run_float_arith w _ _ _ _ _ _ a1
        have e2 : ∀ w, (binOp .quo 22 (.float .f64 4607182418800017408) (.float .f64 y)).run Try.prog w = .ok (.float .f64 b) w := fun w => run_float_arith w _ _ _ _ _ _ b1
        have h3 := lt_num a2 b2
        rw [a3, b3, show decide (sgn (neg x) 9218868437227405312 < sgn (neg y) 9218868437227405312) = (neg x && !neg y) by cases neg x <;> cases neg y <;> rfl] at h3
        generalize (neg x && !neg y) = v at *
        clear hx hy hz nx ny wx wy a1 a2 a3 b1 b2 b3
        go_enter Try.func15, Try.ntmps15
        go_wp2_with fail
        refine C1.out.mono ?_
        rintro e w' ⟨rfl, rfl⟩
        go_wp2_with fail
        refine C2.out.mono ?_
        rintro e w' ⟨rfl, rfl⟩
        go_wp2
        go_ret
        exact ⟨rfl, rfl⟩
      · rw [less_num nx ny hz]
        have h3 := lt_num nx ny
        generalize decide (sr x < sr y) = b at *
        by_cases z1 : sr x = 0
        · rw [decide_eq_true z1] at h1
          rw [decide_eq_false (fun k => hz ⟨z1, k⟩)] at h2
          clear hx hy hz nx ny wx wy z1
          go_enter Try.func15, Try.ntmps15
          go_wp2_with fail
          refine C1.out.mono ?_
          rintro e w' ⟨rfl, rfl⟩
          go_wp2_with fail
          refine C2.out.mono ?_
          rintro e w' ⟨rfl, rfl⟩
          go_wp2
          go_ret
          exact ⟨rfl, rfl⟩
        · rw [decide_eq_false z1] at h1
          clear hx hy hz nx ny wx wy z1 h2
          go_enter Try.func15, Try.ntmps15
          go_wp2_with fail
          refine C1.out.mono ?_
          rintro e w' ⟨rfl, rfl⟩
          go_wp2_with fail
          refine C2.out.mono ?_
          rintro e w' ⟨rfl, rfl⟩
          go_wp2
          go_ret
          exact ⟨rfl, rfl⟩
    · rw [hy] at c2
      have C1 := Lib.hid c1; have C2 := Lib.hid c2; clear c1 c2
      rw [show lessB x y = true by rw [lessB, key_nan hy]; exact decide_eq_true (key_lt nx)]
      clear hx hy nx wx wy
      go_enter Try.func15, Try.ntmps15
      go_wp2_with fail
      refine C1.out.mono ?_
      rintro e w' ⟨rfl, rfl⟩
      go_wp2_with fail
      refine C2.out.mono ?_
      rintro e w' ⟨rfl, rfl⟩
      go_wp2
      go_ret
      exact ⟨rfl, rfl⟩
  · rw [show lessB x y = false by
      rw [lessB, key_nan hx]
      refine decide_eq_false ?_
      cases hy : nanB y
      · have := key_lt (num_of wy hy); omega
      · rw [key_nan hy]; omega]
    rw [hx] at c1
    have C1 := Lib.hid c1; clear c1 c2
    clear hx wx wy
    go_enter Try.func15, Try.ntmps15
    go_wp2_with fail
    refine C1.out.mono ?_
    rintro e w' ⟨rfl, rfl⟩
    go_wp2
    go_ret
    exact ⟨rfl, rfl⟩

set_option maxHeartbeats 1000000 in
theorem osame_any (x y : Nat) (wx : (Lit.float .f64 x).wf = true) (wy : (Lit.float .f64 y).wf = true) (w : World) :
    Calls Try.prog 17 #[.float .f64 x, .float .f64 y] w fun e w' => e = .returned (.bool (sameB x y)) ∧ w = w' := by
  have c1 := oless_any x y wx wy w
  have c2 := oless_any y x wy wx w
  rw [same_less]
  generalize lessB x y = a at *
  generalize lessB y x = b at *
  have C1 := Lib.hid c1; have C2 := Lib.hid c2; clear c1 c2 wx wy
  cases a
  · go_enter Try.func17, Try.ntmps17
    go_wp2_with fail
    refine C1.out.mono ?_
    rintro e w' ⟨rfl, rfl⟩
    go_wp2_with fail
    refine C2.out.mono ?_
    rintro e w' ⟨rfl, rfl⟩
    go_wp2
    go_ret
    exact ⟨rfl, rfl⟩
  · go_enter Try.func17, Try.ntmps17
    go_wp2_with fail
    refine C1.out.mono ?_
    rintro e w' ⟨rfl, rfl⟩
    go_wp2
    go_ret
    exact ⟨rfl, rfl⟩

theorem oin_drawn (x y : Nat) (w0 w : World) : Calls Try.prog 27 #[.float .f64 (drawn x y w0)] w fun e w' => e = .returned (.bool false) ∧ w = w' := by
  have h := oin_any _ (drawn_nan x y w0).2 w
  rwa [inB, far_nan (drawn_nan x y w0).1] at h
theorem oin_inf {z : Nat} (hz : Num z) (hi : infOf (sr z)) (w : World) : Calls Try.prog 27 #[.float .f64 z] w fun e w' => e = .returned (.bool false) ∧ w = w' := by
  have h := oin_any _ hz.wf w
  rwa [inB, far_inf hz hi] at h

set_option maxHeartbeats 2000000 in
theorem obet_inf (x o : Nat) (hx : Num x) (ho : Num o) (h0 : 0 ≤ sr o) (h : infOf (sr x) ∨ infOf (sr o)) (w : World) :
    Calls Try.prog 13 #[.float .f64 x, .float .f64 o] w fun e w' => e = .returned (triple (0, 0, 7)) ∧ Below w.heap.size w w' := by
  have c1 := isnan_any x hx.wf
  have c2 := isnan_any o ho.wf
  rw [nanB_num hx] at c1
  rw [nanB_num ho] at c2
  have h1 := lt_num ho num_zero
  rw [sr_zero, decide_eq_false (by omega)] at h1
  have C1 := Lib.hid c1; have C2 := Lib.hid c2; clear c1 c2
  have HD := Lib.hid (fun x y w0 w => oin_drawn x y w0 w)
  rcases run_far (P := Try.prog) .sub (.inr rfl) 22 hx ho h with ⟨p, hp, np, ip⟩ | hp
  · obtain ⟨p2, hp2, np2, ip2⟩ := run_ten_inf (P := Try.prog) 22 np ip
    have HP := Lib.hid (fun w => oin_inf np2 ip2 w)
    clear np ip np2 ip2
    rcases run_far (P := Try.prog) .add (.inl rfl) 22 hx ho h with ⟨q, hq, nq, iq⟩ | hq
    · obtain ⟨q2, hq2, nq2, iq2⟩ := run_ten_inf (P := Try.prog) 22 nq iq
      clear h hx ho h0 nq iq nq2 iq2
      go_enter Try.func13, Try.ntmps13
      go_wp2_with fail
      refine (C1.out _).mono ?_
      rintro e w' ⟨rfl, rfl⟩
      go_wp2_with fail
      refine (C2.out _).mono ?_
      rintro e w' ⟨rfl, rfl⟩
      go_wp2_with fail
      refine (HP.out _).mono ?_
      rintro e w' ⟨rfl, rfl⟩
      go_wp2
      go_ret3
      exact ⟨rfl, Below.refl _ _⟩
    · have hq2 := fun w' => run_ten_nan (P := Try.prog) 22 (drawn_nan x o w').1
      clear h hx ho h0
      go_enter Try.func13, Try.ntmps13
      go_wp2_with fail
      refine (C1.out _).mono ?_
      rintro e w' ⟨rfl, rfl⟩
      go_wp2_with fail
      refine (C2.out _).mono ?_
      rintro e w' ⟨rfl, rfl⟩
      go_wp2_with fail
      refine (HP.out _).mono ?_
      rintro e w' ⟨rfl, rfl⟩
      go_wp2
      go_ret3
      exact ⟨rfl, below_drew (below_drew (Below.refl _ _))⟩
  · have hp2 := fun w' => run_ten_nan (P := Try.prog) 22 (drawn_nan x o w').1
    rcases run_far (P := Try.prog) .add (.inl rfl) 22 hx ho h with ⟨q, hq, nq, iq⟩ | hq
    · obtain ⟨q2, hq2, nq2, iq2⟩ := run_ten_inf (P := Try.prog) 22 nq iq
      clear h hx ho h0 nq iq nq2 iq2
      go_enter Try.func13, Try.ntmps13
      go_wp2_with fail
      refine (C1.out _).mono ?_
      rintro e w' ⟨rfl, rfl⟩
      go_wp2_with fail
      refine (C2.out _).mono ?_
      rintro e w' ⟨rfl, rfl⟩
      go_wp2_with fail
      refine (HD.out _ _ _ _).mono ?_
      rintro e w' ⟨rfl, rfl⟩
      go_wp2
      go_ret3
      exact ⟨rfl, below_drew (below_drew (Below.refl _ _))⟩
    · clear h hx ho h0
      go_enter Try.func13, Try.ntmps13
      go_wp2_with fail
      refine (C1.out _).mono ?_
      rintro e w' ⟨rfl, rfl⟩
      go_wp2_with fail
      refine (C2.out _).mono ?_
      rintro e w' ⟨rfl, rfl⟩
      go_wp2_with fail
      refine (HD.out _ _ _ _).mono ?_
      rintro e w' ⟨rfl, rfl⟩
      go_wp2
      go_ret3
      exact ⟨rfl, below_drew (below_drew (below_drew (below_drew (Below.refl _ _))))⟩

set_option maxHeartbeats 2000000 in
theorem obet_fin (x o : Nat) (hx : Num x) (ho : Num o) (h0 : 0 ≤ sr o) (h : ¬ (infOf (sr x) ∨ infOf (sr o))) (w : World) :
    Calls Try.prog 13 #[.float .f64 x, .float .f64 o] w fun e w' => e = .returned (triple (betR (sr x) (sr o))) ∧ w = w' := by
  have c1 := isnan_any x hx.wf
  have c2 := isnan_any o ho.wf
  rw [nanB_num hx] at c1
  rw [nanB_num ho] at c2
  have h1 := lt_num ho num_zero
  rw [sr_zero, decide_eq_false (by omega)] at h1
  have C1 := Lib.hid c1; have C2 := Lib.hid c2; clear c1 c2
  have fx := fin_of hx (fun k => h (.inl k))
  have fo := fin_of ho (fun k => h (.inr k))
  obtain ⟨p, p1, p2, p3⟩ := sub_fin fx fo
  obtain ⟨q, q1, q2, q3⟩ := add_fin fx fo
  obtain ⟨a, a1, a2, a3⟩ := mul10_num p2
  obtain ⟨b, b1, b2, b3⟩ := mul10_num q2
  have e1 : ∀ w, (binOp .sub 22 (.float .f64 x) (.float .f64 o)).run Try.prog w = .ok (.float .f64 p) w := fun w => run_float_arith w .sub _ .f64 _ _ _ p1
  have e2 : ∀ w, (binOp .add 22 (.float .f64 x) (.float .f64 o)).run Try.prog w = .ok (.float .f64 q) w := fun w => run_float_arith w .add _ .f64 _ _ _ q1
  have e3 : ∀ w, (binOp .mul 22 (.float .f64 p) (.float .f64 4621819117588971520)).run Try.prog w = .ok (.float .f64 a) w := fun w => run_float_arith w .mul _ .f64 _ _ _ a1
  have e4 : ∀ w, (binOp .mul 22 (.float .f64 q) (.float .f64 4621819117588971520)).run Try.prog w = .ok (.float .f64 b) w := fun w => run_float_arith w .mul _ .f64 _ _ _ b1
  rw [p3] at a3
  rw [q3] at b3
  rw [betR, if_neg h, loOf, hiOf, ← a3, ← b3]
  have HA := Lib.hid (fun w => oin_any a a2.wf w)
  have HB := Lib.hid (fun w => oin_any b b2.wf w)
  rw [inB_num a2] at HA
  rw [inB_num b2] at HB
  have HC := Lib.hid (fun hh w => mfloor_any a a2 hh w)
  have HE := Lib.hid (fun hh w => mceil_any b b2 hh w)
  have KC := Lib.hid (fun hh => down_bound a2 hh)
  have KE := Lib.hid (fun hh => up_bound b2 hh)
  clear h hx ho h0 fx fo p1 p2 p3 q1 q2 q3 a1 a2 a3 b1 b2 b3
  by_cases ha : nearR (sr a)
  · rw [decide_eq_true ha] at HA
    have HC2 := Lib.hid (HC.out ha)
    have KC2 := Lib.hid (KC.out ha)
    by_cases hb : nearR (sr b)
    · rw [if_pos ⟨ha, hb⟩]
      rw [decide_eq_true hb] at HB
      have HE2 := Lib.hid (HE.out hb)
      have KE2 := Lib.hid (KE.out hb)
      clear HC HE KC KE
      generalize downOf (sr a) = d at *
      generalize upOf (sr b) = u at *
      clear ha hb
      go_enter Try.func13, Try.ntmps13
      go_wp2_with fail
      refine (C1.out _).mono ?_
      rintro e w' ⟨rfl, rfl⟩
      go_wp2_with fail
      refine (C2.out _).mono ?_
      rintro e w' ⟨rfl, rfl⟩
      go_wp2_with fail
      refine (HA.out _).mono ?_
      rintro e w' ⟨rfl, rfl⟩
      go_wp2_with fail
      refine (HB.out _).mono ?_
      rintro e w' ⟨rfl, rfl⟩
      go_wp2_with fail
      refine (HC2.out _).mono ?_
      rintro e w' ⟨z, rfl, hz, rfl⟩
      have e5 := conv_int hz KC2.out
      clear hz
      go_wp2_with fail
      refine (HE2.out _).mono ?_
      rintro e w' ⟨z2, rfl, hz, rfl⟩
      have e6 := conv_int hz KE2.out
      clear hz
      go_wp2
      go_ret3
      exact ⟨rfl, rfl⟩
    · rw [if_neg (fun k => hb k.2)]
      rw [decide_eq_false hb] at HB
      clear ha hb
      go_enter Try.func13, Try.ntmps13
      go_wp2_with fail
      refine (C1.out _).mono ?_
      rintro e w' ⟨rfl, rfl⟩
      go_wp2_with fail
      refine (C2.out _).mono ?_
      rintro e w' ⟨rfl, rfl⟩
      go_wp2_with fail
      refine (HA.out _).mono ?_
      rintro e w' ⟨rfl, rfl⟩
      go_wp2_with fail
      refine (HB.out _).mono ?_
      rintro e w' ⟨rfl, rfl⟩
      go_wp2
      go_ret3
      exact ⟨rfl, rfl⟩
  · rw [if_neg (fun k => ha k.1)]
    rw [decide_eq_false ha] at HA
    clear ha HB
    go_enter Try.func13, Try.ntmps13
    go_wp2_with fail
    refine (C1.out _).mono ?_
    rintro e w' ⟨rfl, rfl⟩
    go_wp2_with fail
    refine (C2.out _).mono ?_
    rintro e w' ⟨rfl, rfl⟩
    go_wp2_with fail
    refine (HA.out _).mono ?_
    rintro e w' ⟨rfl, rfl⟩
    go_wp2
    go_ret3
    exact ⟨rfl, rfl⟩

set_option maxHeartbeats 2000000 in
theorem obet_any (x o : Nat) (wx : (Lit.float .f64 x).wf = true) (wo : (Lit.float .f64 o).wf = true) (w : World) :
    Calls Try.prog 13 #[.float .f64 x, .float .f64 o] w fun e w' => e = .returned (triple (betF x o)) ∧ Below w.heap.size w w' := by
  have c1 := isnan_any x wx
  have c2 := isnan_any o wo
  cases hx : nanB x
  · have nx := num_of wx hx
    rw [hx] at c1
    cases ho : nanB o
    · have no := num_of wo ho
      rw [ho] at c2
      by_cases h0 : sr o < 0
      · rw [betF, if_pos (.inr (.inr h0))]
        have h1 := lt_num no num_zero
        rw [sr_zero, decide_eq_true h0] at h1
        have C1 := Lib.hid c1; have C2 := Lib.hid c2; clear c1 c2 hx ho nx no wx wo h0
        go_enter Try.func13, Try.ntmps13
        go_wp2_with fail
        refine (C1.out _).mono ?_
        rintro e w' ⟨rfl, rfl⟩
        go_wp2_with fail
        refine (C2.out _).mono ?_
        rintro e w' ⟨rfl, rfl⟩
        go_wp2
        go_ret3
        exact ⟨rfl, Below.refl _ _⟩
      · rw [betF, if_neg (by rw [hx, ho]; simp; omega)]
        by_cases hi : infOf (sr x) ∨ infOf (sr o)
        · rw [betR, if_pos hi]
          exact obet_inf x o nx no (by omega) hi w
        · refine (obet_fin x o nx no (by omega) hi w).mono ?_
          rintro e w' ⟨rfl, rfl⟩
          exact ⟨rfl, Below.refl _ _⟩
    · rw [betF, if_pos (.inr (.inl ho))]
      rw [ho] at c2
      have C1 := Lib.hid c1; have C2 := Lib.hid c2; clear c1 c2 hx ho nx wx wo
      go_enter Try.func13, Try.ntmps13
      go_wp2_with fail
      refine (C1.out _).mono ?_
      rintro e w' ⟨rfl, rfl⟩
      go_wp2_with fail
      refine (C2.out _).mono ?_
      rintro e w' ⟨rfl, rfl⟩
      go_wp2
      go_ret3
      exact ⟨rfl, Below.refl _ _⟩
  · rw [betF, if_pos (.inl hx)]
    rw [hx] at c1
    have C1 := Lib.hid c1; clear c1 c2 hx wx wo
    go_enter Try.func13, Try.ntmps13
    go_wp2_with fail
    refine (C1.out _).mono ?_
    rintro e w' ⟨rfl, rfl⟩
    go_wp2
    go_ret3
    exact ⟨rfl, Below.refl _ _⟩
end Go.Proofs.Ytidokfbjfdkfdaa
