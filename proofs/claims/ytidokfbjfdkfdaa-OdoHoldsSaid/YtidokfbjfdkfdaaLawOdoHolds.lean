/-
  OdoHolds answers true, and nothing that was there has turned.
-/
import Derived.Test.YtidokfbjfdkfdaaLawAwake04
namespace Go.Proofs.Ytidokfbjfdkfdaa
open Go.RowKit Fl
attribute [local irreducible] N E mval top U

theorem tenOf_mono {r s : Int} (hr : -9218868437227405312 ≤ r ∧ r ≤ 9218868437227405312) (hs : -9218868437227405312 ≤ s ∧ s ≤ 9218868437227405312) (h : r ≤ s) : tenOf r ≤ tenOf s :=
  Rnd_mono (Int.mul_le_mul_of_nonneg_right ((SV_le hr hs).2 h) (by decide))
theorem tenOf_le (r : Int) : -9218868437227405312 ≤ tenOf r ∧ tenOf r ≤ 9218868437227405312 := Rnd_le _
/-- What lies between two products that are distances is one. -/
theorem ten_between {P Q r : Int} (hP : -9218868437227405312 ≤ P) (hQ : Q ≤ 9218868437227405312) (h1 : P ≤ r) (h2 : r ≤ Q) (n1 : nearR (tenOf P)) (n2 : nearR (tenOf Q)) :
    nearR (tenOf r) ∧ downOf (tenOf P) ≤ downOf (tenOf r) ∧ downOf (tenOf r) ≤ upOf (tenOf Q) ∧ upOf (tenOf r) ≤ upOf (tenOf Q) := by
  have k1 := tenOf_mono ⟨hP, by omega⟩ ⟨by omega, by omega⟩ h1
  have k2 := tenOf_mono ⟨by omega, by omega⟩ ⟨by omega, hQ⟩ h2
  have b1 := tenOf_le P
  have b2 := tenOf_le r
  have b3 := tenOf_le Q
  have m1 := downOf_mono b1 b2 k1
  have m2 := upOf_mono b2 b3 k2
  have m3 := down_le_up (tenOf r)
  unfold nearR at *
  exact ⟨by omega, m1, by omega, m2⟩
theorem parts {x o : Int} (hx : -9218868437227405312 ≤ x ∧ x ≤ 9218868437227405312) (ho : 0 ≤ o ∧ o ≤ 9218868437227405312) : Rnd (SV x - SV o) ≤ x ∧ x ≤ Rnd (SV x + SV o) := by
  have h0 : 0 ≤ SV o := by rw [← SV_zero]; exact (SV_le (by omega) (by omega)).2 ho.1
  have h1 := Rnd_mono (S := SV x - SV o) (T := SV x) (by omega)
  have h2 := Rnd_mono (S := SV x) (T := SV x + SV o) (by omega)
  rw [Rnd_SV hx] at h1 h2
  exact ⟨h1, h2⟩
/-- A lesser tolerance tells no wider. -/
theorem parts_in {x o h : Int} (ho : 0 ≤ o ∧ o ≤ 9218868437227405312) (h1 : 0 ≤ h) (h2 : h ≤ o) : Rnd (SV x - SV o) ≤ Rnd (SV x - SV h) ∧ Rnd (SV x + SV h) ≤ Rnd (SV x + SV o) := by
  have h3 : SV h ≤ SV o := (SV_le (by omega) (by omega)).2 h2
  exact ⟨Rnd_mono (by omega), Rnd_mono (by omega)⟩
theorem betF_cases (x o : Nat) (wx : (Lit.float .f64 x).wf = true) (wo : (Lit.float .f64 o).wf = true) :
    betF x o = (0, 0, 40) ∨ betF x o = (0, 0, 7) ∨ (Fl.Fin x ∧ Fl.Fin o ∧ 0 ≤ sr o ∧ nearR (loOf (sr x) (sr o)) ∧ nearR (hiOf (sr x) (sr o)) ∧ betF x o = (downOf (loOf (sr x) (sr o)), upOf (hiOf (sr x) (sr o)), 0)) := by
  unfold betF
  by_cases h : nanB x = true ∨ nanB o = true ∨ sr o < 0
  · rw [if_pos h]; exact .inl rfl
  · rw [if_neg h]
    unfold betR
    by_cases hi : infOf (sr x) ∨ infOf (sr o)
    · rw [if_pos hi]; exact .inr (.inl rfl)
    · rw [if_neg hi]
      by_cases hn : nearR (loOf (sr x) (sr o)) ∧ nearR (hiOf (sr x) (sr o))
      · rw [if_pos hn]
        have nx := num_of wx (Bool.eq_false_iff.2 fun k => h (.inl k))
        have no := num_of wo (Bool.eq_false_iff.2 fun k => h (.inr (.inl k)))
        exact .inr (.inr ⟨fin_of nx fun k => hi (.inl k), fin_of no fun k => hi (.inr k), by have : ¬ sr o < 0 := fun k => h (.inr (.inr k)); omega, hn.1, hn.2, rfl⟩)
      · rw [if_neg hn]; exact .inr (.inl rfl)
theorem betF_fin {x o : Nat} (hx : Fl.Fin x) (ho : Fl.Fin o) (h0 : 0 ≤ sr o) (n1 : nearR (loOf (sr x) (sr o))) (n2 : nearR (hiOf (sr x) (sr o))) : betF x o = (downOf (loOf (sr x) (sr o)), upOf (hiOf (sr x) (sr o)), 0) := by
  have bx := hx.sr_lt
  have bo := ho.sr_lt
  rw [betF, if_neg, betR, if_neg, if_pos ⟨n1, n2⟩]
  · unfold infOf; omega
  · rw [nanB_num hx.num, nanB_num ho.num]; simp; omega
theorem wholeF_near {x : Nat} (hx : Num x) (h : nearR (tenOf (sr x))) : wholeF x = (downOf (tenOf (sr x)), 0) := by
  rw [wholeF, nanB_num hx]
  show wholeR (sr x) = _
  rw [wholeR, if_pos h]

set_option maxHeartbeats 2000000 in
theorem odoHolds_walk (x o y : Nat) (w : World) (wx : (Lit.float .f64 x).wf = true) (wo : (Lit.float .f64 o).wf = true) (wy : (Lit.float .f64 y).wf = true) :
    Calls Try.prog 8 #[.float .f64 x, .float .f64 o, .float .f64 y] w fun e w' => e = .returned (.bool true) ∧ Below w.heap.size w w' := by
  rcases betF_cases x o wx wo with h | h | ⟨fx, fo, h0, n1, n2, h⟩
  · have c1 := fun w => odo_between x o wx wo w
    rw [h, triple] at c1
    have CB := Lib.hid c1; clear c1 h
    go_enter Try.func8, Try.ntmps8
    go_wp2_with fail
    refine (awake04_any _).mono ?_
    rintro e wb1 ⟨rfl, b⟩
    have HB1 := Lib.hid b; clear b
    go_wp2_with fail
    refine (CB.out _).mono ?_
    rintro e wb2 ⟨rfl, b⟩
    have HB2 := Lib.hid (HB1.out.trans (b.mono HB1.out.size)); clear b HB1
    go_wp2
    go_ret
    exact ⟨rfl, HB2.out⟩
  · have c1 := fun w => odo_between x o wx wo w
    rw [h, triple] at c1
    have CB := Lib.hid c1; clear c1 h
    go_enter Try.func8, Try.ntmps8
    go_wp2_with fail
    refine (awake04_any _).mono ?_
    rintro e wb1 ⟨rfl, b⟩
    have HB1 := Lib.hid b; clear b
    go_wp2_with fail
    refine (CB.out _).mono ?_
    rintro e wb2 ⟨rfl, b⟩
    have HB2 := Lib.hid (HB1.out.trans (b.mono HB1.out.size)); clear b HB1
    go_wp2
    go_ret
    exact ⟨rfl, HB2.out⟩
  · have bx := fx.sr_lt
    have bo := fo.sr_lt
    obtain ⟨p, p1, p2, p3⟩ := sub_fin fx fo
    obtain ⟨q, q1, q2, q3⟩ := add_fin fx fo
    obtain ⟨z, z1, z2, z3, z4⟩ := half_fin fo h0
    have fz : Fl.Fin z := fin_of_sr z2 (by omega) (by omega)
    have e1 : ∀ w, (binOp .sub 22 (.float .f64 x) (.float .f64 o)).run Try.prog w = .ok (.float .f64 p) w := fun w => run_float_arith w .sub _ .f64 _ _ _ p1
    have e2 : ∀ w, (binOp .add 22 (.float .f64 x) (.float .f64 o)).run Try.prog w = .ok (.float .f64 q) w := fun w => run_float_arith w .add _ .f64 _ _ _ q1
    have e3 : ∀ w, (binOp .quo 22 (.float .f64 o) (.float .f64 4611686018427387904)).run Try.prog w = .ok (.float .f64 z) w := fun w => run_float_arith w .quo _ .f64 _ _ _ z1
    have bp := Rnd_le (SV (sr x) - SV (sr o))
    have bq := Rnd_le (SV (sr x) + SV (sr o))
    obtain ⟨k1, k2⟩ := parts (x := sr x) (o := sr o) (by omega) (by omega)
    obtain ⟨k3, k4⟩ := parts_in (x := sr x) (o := sr o) (h := sr z) (by omega) z3 z4
    obtain ⟨k5, k6⟩ := parts (x := sr x) (o := sr z) (by omega) (by omega)
    have n1' : nearR (tenOf (Rnd (SV (sr x) - SV (sr o)))) := n1
    have n2' : nearR (tenOf (Rnd (SV (sr x) + SV (sr o)))) := n2
    obtain ⟨t1, t2, t3, _⟩ := ten_between bp.1 bq.2 k1 k2 n1' n2'
    obtain ⟨u1, u2, _, _⟩ := ten_between bp.1 bq.2 k3 (Int.le_trans k5 k2) n1' n2'
    obtain ⟨v1, _, _, v4⟩ := ten_between bp.1 bq.2 (Int.le_trans k1 k6) k4 n1' n2'
    have u3 := down_le_up (tenOf (Rnd (SV (sr x) + SV (sr o))))
    have c1 := fun w => odo_between x o wx wo w
    have c2 := fun w => odo_whole x wx w
    have c3 := fun w => odo_between x z wx z2.wf w
    rw [h, triple] at c1
    rw [wholeF_near fx.num t1, pair] at c2
    rw [betF_fin fx fz z3 u1 v1, triple] at c3
    have hy : nanB y = false → sr p ≤ sr y → sr y ≤ sr q → ∃ m, wholeF y = (m, 0) ∧ downOf (loOf (sr x) (sr o)) ≤ m ∧ m ≤ upOf (hiOf (sr x) (sr o)) := by
      intro hn h1 h2
      rw [p3] at h1
      rw [q3] at h2
      obtain ⟨s1, s2, s3, _⟩ := ten_between bp.1 bq.2 h1 h2 n1' n2'
      exact ⟨_, wholeF_near (num_of wy hn) s1, s2, s3⟩
    have t2' : downOf (loOf (sr x) (sr o)) ≤ downOf (tenOf (sr x)) := t2
    have t3' : downOf (tenOf (sr x)) ≤ upOf (hiOf (sr x) (sr o)) := t3
    have u2' : downOf (loOf (sr x) (sr o)) ≤ downOf (loOf (sr x) (sr z)) := u2
    have v4' : upOf (hiOf (sr x) (sr z)) ≤ upOf (hiOf (sr x) (sr o)) := v4
    clear h fx fo n1 n2 n1' n2' bp bq k1 k2 k3 k4 k5 k6 t1 t2 t3 u1 u2 v1 v4 u3 p1 q1 z1 z2 z3 z4 fz h0 p3 q3
    simp only [] at c1 c2 c3
    generalize downOf (loOf (sr x) (sr o)) = lo at *
    generalize upOf (hiOf (sr x) (sr o)) = hi at *
    generalize downOf (tenOf (sr x)) = n at *
    generalize downOf (loOf (sr x) (sr z)) = a at *
    generalize upOf (hiOf (sr x) (sr z)) = b at *
    have hlh : lo ≤ hi := by omega
    have CB := Lib.hid c1; have CW := Lib.hid c2; have CH := Lib.hid c3; clear c1 c2 c3
    have HY := Lib.hid hy; clear hy
    cases hn : nanB y
    · have ny := num_of wy hn
      have g1 := ge_num ny p2
      have g2 := le_num ny q2
      by_cases h1 : sr p ≤ sr y
      · rw [decide_eq_true h1] at g1
        by_cases h2 : sr y ≤ sr q
        · rw [decide_eq_true h2] at g2
          obtain ⟨m, hm, m1, m2⟩ := HY.out hn h1 h2
          have c4 := fun w => odo_whole y wy w
          rw [hm, pair] at c4
          have CY := Lib.hid c4; clear c4 hm h1 h2 hn ny p2 q2 HY
          go_enter Try.func8, Try.ntmps8
          go_wp2_with fail
          refine (awake04_any _).mono ?_
          rintro e wb1 ⟨rfl, b⟩
          have HB1 := Lib.hid b; clear b
          go_wp2_with fail
          refine (CB.out _).mono ?_
          rintro e wb2 ⟨rfl, b⟩
          have HB2 := Lib.hid (HB1.out.trans (b.mono HB1.out.size)); clear b HB1
          go_wp2_with fail
          refine (CW.out _).mono ?_
          rintro e wb3 ⟨rfl, b⟩
          have HB3 := Lib.hid (HB2.out.trans (b.mono HB2.out.size)); clear b HB2
          go_wp2_with fail
          refine (CY.out _).mono ?_
          rintro e wb4 ⟨rfl, b⟩
          have HB4 := Lib.hid (HB3.out.trans (b.mono HB3.out.size)); clear b HB3
          go_wp2_with fail
          refine (CH.out _).mono ?_
          rintro e wb5 ⟨rfl, b⟩
          have HB5 := Lib.hid (HB4.out.trans (b.mono HB4.out.size)); clear b HB4
          go_wp2
          go_ret
          exact ⟨rfl, HB5.out⟩
        · rw [decide_eq_false h2] at g2
          clear h1 h2 hn ny p2 q2 HY
          go_enter Try.func8, Try.ntmps8
          go_wp2_with fail
          refine (awake04_any _).mono ?_
          rintro e wb1 ⟨rfl, b⟩
          have HB1 := Lib.hid b; clear b
          go_wp2_with fail
          refine (CB.out _).mono ?_
          rintro e wb2 ⟨rfl, b⟩
          have HB2 := Lib.hid (HB1.out.trans (b.mono HB1.out.size)); clear b HB1
          go_wp2_with fail
          refine (CW.out _).mono ?_
          rintro e wb3 ⟨rfl, b⟩
          have HB3 := Lib.hid (HB2.out.trans (b.mono HB2.out.size)); clear b HB2
          go_wp2_with fail
          refine (CH.out _).mono ?_
          rintro e wb4 ⟨rfl, b⟩
          have HB4 := Lib.hid (HB3.out.trans (b.mono HB3.out.size)); clear b HB3
          go_wp2
          go_ret
          exact ⟨rfl, HB4.out⟩
      · rw [decide_eq_false h1] at g1
        clear h1 hn ny p2 q2 HY g2
        go_enter Try.func8, Try.ntmps8
        go_wp2_with fail
        refine (awake04_any _).mono ?_
        rintro e wb1 ⟨rfl, b⟩
        have HB1 := Lib.hid b; clear b
        go_wp2_with fail
        refine (CB.out _).mono ?_
        rintro e wb2 ⟨rfl, b⟩
        have HB2 := Lib.hid (HB1.out.trans (b.mono HB1.out.size)); clear b HB1
        go_wp2_with fail
        refine (CW.out _).mono ?_
        rintro e wb3 ⟨rfl, b⟩
        have HB3 := Lib.hid (HB2.out.trans (b.mono HB2.out.size)); clear b HB2
        go_wp2_with fail
        refine (CH.out _).mono ?_
        rintro e wb4 ⟨rfl, b⟩
        have HB4 := Lib.hid (HB3.out.trans (b.mono HB3.out.size)); clear b HB3
        go_wp2
        go_ret
        exact ⟨rfl, HB4.out⟩
    · have g1 : (FloatKind.f64.format.order y p == some .gt || FloatKind.f64.format.order y p == some .eq) = false := by rw [ord_none (.inl hn)]; rfl
      clear hn p2 q2 HY
      go_enter Try.func8, Try.ntmps8
      go_wp2_with fail
      refine (awake04_any _).mono ?_
      rintro e wb1 ⟨rfl, b⟩
      have HB1 := Lib.hid b; clear b
      go_wp2_with fail
      refine (CB.out _).mono ?_
      rintro e wb2 ⟨rfl, b⟩
      have HB2 := Lib.hid (HB1.out.trans (b.mono HB1.out.size)); clear b HB1
      go_wp2_with fail
      refine (CW.out _).mono ?_
      rintro e wb3 ⟨rfl, b⟩
      have HB3 := Lib.hid (HB2.out.trans (b.mono HB2.out.size)); clear b HB2
      go_wp2_with fail
      refine (CH.out _).mono ?_
      rintro e wb4 ⟨rfl, b⟩
      have HB4 := Lib.hid (HB3.out.trans (b.mono HB3.out.size)); clear b HB3
      go_wp2
      go_ret
      exact ⟨rfl, HB4.out⟩

end Go.Proofs.Ytidokfbjfdkfdaa
