/-
  VarsFits, called in a world whose widths are the table's: it answers true, and nothing that was there has turned.
-/
import Derived.Test.YtijececmengdmaaDoorLawAwake02
namespace Go.Proofs.YtijececmengdmaaDoor
open Go.RowKit

theorem fits_facts (v : Int) (h : 0 ≤ v ∧ v < 96) : 1 ≤ widthOf v ∧ widthOf v ≤ 32 ∧ 0 ≤ mostOf v ∧ mostOf v ≤ 2 ^ widthOf v - 1 ∧ 0 ≤ specialOf v ∧ specialOf v ≤ 2 ^ widthOf v - 1 ∧ (specialOf v = 0 ∨ mostOf v < specialOf v) := by
  have := vall (fun i => decide (1 ≤ widthOf i ∧ widthOf i ≤ 32 ∧ 0 ≤ mostOf i ∧ mostOf i ≤ 2 ^ widthOf i - 1 ∧ 0 ≤ specialOf i ∧ specialOf i ≤ 2 ^ widthOf i - 1 ∧ (specialOf i = 0 ∨ mostOf i < specialOf i))) (by decide +kernel) v h.1 h.2
  have e : ((v.toNat : Nat) : Int) = v := by omega
  have := of_decide_eq_true this
  rw [e] at this
  exact this

set_option maxHeartbeats 4000000 in
theorem varsFits_in (v n : Int) (w : World) (hw : Wd w) (h : 0 ≤ v ∧ v < 96) :
    Calls Tryd.prog 6 #[.int .i64 v, .int .i64 n] w fun e w' => e = .returned (.bool true) ∧ Below w.heap.size w w' := by
  have HA := Lib.hid (awake02_any w hw)
  have HW := Lib.hid hw; clear hw
  have hM0 : mayOf v n = (decide (0 ≤ n) && (decide (n ≤ mostOf v) || (decide (specialOf v ≠ 0) && decide (specialOf v ≤ n) && decide (n ≤ greatestOf v)))) := by simp [mayOf, h]
  obtain ⟨f1, f2, f3, f4, f5, f6, f7⟩ := fits_facts v h
  have c1 := width_any v
  have c2 := most_any v
  have c3 := fun w (_ : Wd w) => special_any v w
  have c4 := may_var v n
  rw [greatestOf] at hM0
  obtain ⟨h0, h1⟩ := h
  generalize mayOf v n = M0 at *
  generalize mostOf v = M at *
  generalize specialOf v = S at *
  generalize widthOf v = B at *
  obtain ⟨P, hP⟩ : ∃ P, P = 2 ^ B := ⟨_, rfl⟩
  have hP2 : P ≤ 2 ^ 32 := by rw [hP]; exact Nat.pow_le_pow_right (by omega) f2
  have hP1 : 1 ≤ P := by rw [hP]; exact Nat.one_le_two_pow
  have e : ((2 : Int) ^ B) = (P : Int) := by rw [hP]; simp
  have HP := Lib.hid hP; clear hP
  rw [e] at f4 f6 hM0
  have C1 := Lib.hid c1; have C2 := Lib.hid c2; have C3 := Lib.hid c3; have C4 := Lib.hid c4
  clear c1 c2 c3 c4
  have g1 : ¬ (P : Int) - 1 < M := by omega
  have g2 : ¬ (P : Int) - 1 < S := by omega
  by_cases hn : n < 0
  · have g3 : ¬ 0 ≤ n := by omega
    have hm : M0 = false := by rw [hM0, decide_eq_false g3]; rfl
    subst hm
    clear hM0
    by_cases hS : 0 < S
    · have g4 : ¬ S ≤ M := by omega
      have g5 : ¬ S ≤ n := by omega
      go_enter Tryd.func6, Tryd.ntmps6
      go_wp2_with fail
      refine HA.out.mono ?_
      rintro e w1 ⟨rfl, b1⟩
      have HB1 := Lib.hid b1
      have HW1 := Lib.hid (HW.out.under b1)
      clear b1 HA HW
      go_wp2_with fail
      refine (C1.out w1 HW1.out).mono ?_
      rintro e w' ⟨rfl, rfl⟩
      go_wp2_with fail
      refine (C2.out w1 HW1.out).mono ?_
      rintro e w' ⟨rfl, rfl⟩
      go_wp2_with fail
      refine (C3.out w1 HW1.out).mono ?_
      rintro e w' ⟨rfl, rfl⟩
      go_wp2_with fail
      refine (C4.out w1 HW1.out).mono ?_
      rintro e w' ⟨rfl, rfl⟩
      go_wp2
      go_ret
      exact ⟨rfl, HB1.out⟩
    · have g5 : ¬ S ≤ n ∨ True := .inr trivial
      clear g5
      go_enter Tryd.func6, Tryd.ntmps6
      go_wp2_with fail
      refine HA.out.mono ?_
      rintro e w1 ⟨rfl, b1⟩
      have HB1 := Lib.hid b1
      have HW1 := Lib.hid (HW.out.under b1)
      clear b1 HA HW
      go_wp2_with fail
      refine (C1.out w1 HW1.out).mono ?_
      rintro e w' ⟨rfl, rfl⟩
      go_wp2_with fail
      refine (C2.out w1 HW1.out).mono ?_
      rintro e w' ⟨rfl, rfl⟩
      go_wp2_with fail
      refine (C3.out w1 HW1.out).mono ?_
      rintro e w' ⟨rfl, rfl⟩
      go_wp2_with fail
      refine (C4.out w1 HW1.out).mono ?_
      rintro e w' ⟨rfl, rfl⟩
      go_wp2
      go_ret
      exact ⟨rfl, HB1.out⟩
  · have g3 : 0 ≤ n := by omega
    rw [decide_eq_true g3, Bool.true_and] at hM0
    by_cases hnM : n ≤ M
    · have hm : M0 = true := by rw [hM0, decide_eq_true hnM]; rfl
      subst hm
      clear hM0
      have g6 : ¬ (P : Int) - 1 < n := by omega
      by_cases hS : 0 < S
      · have g4 : ¬ S ≤ M := by omega
        go_enter Tryd.func6, Tryd.ntmps6
        go_wp2_with fail
        refine HA.out.mono ?_
        rintro e w1 ⟨rfl, b1⟩
        have HB1 := Lib.hid b1
        have HW1 := Lib.hid (HW.out.under b1)
        clear b1 HA HW
        go_wp2_with fail
        refine (C1.out w1 HW1.out).mono ?_
        rintro e w' ⟨rfl, rfl⟩
        go_wp2_with fail
        refine (C2.out w1 HW1.out).mono ?_
        rintro e w' ⟨rfl, rfl⟩
        go_wp2_with fail
        refine (C3.out w1 HW1.out).mono ?_
        rintro e w' ⟨rfl, rfl⟩
        go_wp2_with fail
        refine (C4.out w1 HW1.out).mono ?_
        rintro e w' ⟨rfl, rfl⟩
        go_wp2
        go_ret
        exact ⟨rfl, HB1.out⟩
      · go_enter Tryd.func6, Tryd.ntmps6
        go_wp2_with fail
        refine HA.out.mono ?_
        rintro e w1 ⟨rfl, b1⟩
        have HB1 := Lib.hid b1
        have HW1 := Lib.hid (HW.out.under b1)
        clear b1 HA HW
        go_wp2_with fail
        refine (C1.out w1 HW1.out).mono ?_
        rintro e w' ⟨rfl, rfl⟩
        go_wp2_with fail
        refine (C2.out w1 HW1.out).mono ?_
        rintro e w' ⟨rfl, rfl⟩
        go_wp2_with fail
        refine (C3.out w1 HW1.out).mono ?_
        rintro e w' ⟨rfl, rfl⟩
        go_wp2_with fail
        refine (C4.out w1 HW1.out).mono ?_
        rintro e w' ⟨rfl, rfl⟩
        go_wp2
        go_ret
        exact ⟨rfl, HB1.out⟩
    · rw [decide_eq_false hnM, Bool.false_or] at hM0
      by_cases hS : 0 < S
      · have g4 : ¬ S ≤ M := by omega
        have g7 : S ≠ 0 := by omega
        rw [decide_eq_true g7, Bool.true_and] at hM0
        by_cases hSn : S ≤ n
        · rw [decide_eq_true hSn, Bool.true_and] at hM0
          by_cases hnP : n ≤ (P : Int) - 1
          · have g6 : ¬ (P : Int) - 1 < n := by omega
            rw [decide_eq_true hnP] at hM0
            subst hM0
            go_enter Tryd.func6, Tryd.ntmps6
            go_wp2_with fail
            refine HA.out.mono ?_
            rintro e w1 ⟨rfl, b1⟩
            have HB1 := Lib.hid b1
            have HW1 := Lib.hid (HW.out.under b1)
            clear b1 HA HW
            go_wp2_with fail
            refine (C1.out w1 HW1.out).mono ?_
            rintro e w' ⟨rfl, rfl⟩
            go_wp2_with fail
            refine (C2.out w1 HW1.out).mono ?_
            rintro e w' ⟨rfl, rfl⟩
            go_wp2_with fail
            refine (C3.out w1 HW1.out).mono ?_
            rintro e w' ⟨rfl, rfl⟩
            go_wp2_with fail
            refine (C4.out w1 HW1.out).mono ?_
            rintro e w' ⟨rfl, rfl⟩
            go_wp2
            go_ret
            exact ⟨rfl, HB1.out⟩
          · rw [decide_eq_false hnP] at hM0
            subst hM0
            go_enter Tryd.func6, Tryd.ntmps6
            go_wp2_with fail
            refine HA.out.mono ?_
            rintro e w1 ⟨rfl, b1⟩
            have HB1 := Lib.hid b1
            have HW1 := Lib.hid (HW.out.under b1)
            clear b1 HA HW
            go_wp2_with fail
            refine (C1.out w1 HW1.out).mono ?_
            rintro e w' ⟨rfl, rfl⟩
            go_wp2_with fail
            refine (C2.out w1 HW1.out).mono ?_
            rintro e w' ⟨rfl, rfl⟩
            go_wp2_with fail
            refine (C3.out w1 HW1.out).mono ?_
            rintro e w' ⟨rfl, rfl⟩
            go_wp2_with fail
            refine (C4.out w1 HW1.out).mono ?_
            rintro e w' ⟨rfl, rfl⟩
            go_wp2
            go_ret
            exact ⟨by show Ending.returned (.bool (!decide (n ≤ M) && !decide (n ≤ (P : Int) - 1))) = _; rw [decide_eq_false (by omega), decide_eq_false (by omega)]; rfl, HB1.out⟩
        · rw [decide_eq_false hSn, Bool.false_and] at hM0
          subst hM0
          go_enter Tryd.func6, Tryd.ntmps6
          go_wp2_with fail
          refine HA.out.mono ?_
          rintro e w1 ⟨rfl, b1⟩
          have HB1 := Lib.hid b1
          have HW1 := Lib.hid (HW.out.under b1)
          clear b1 HA HW
          go_wp2_with fail
          refine (C1.out w1 HW1.out).mono ?_
          rintro e w' ⟨rfl, rfl⟩
          go_wp2_with fail
          refine (C2.out w1 HW1.out).mono ?_
          rintro e w' ⟨rfl, rfl⟩
          go_wp2_with fail
          refine (C3.out w1 HW1.out).mono ?_
          rintro e w' ⟨rfl, rfl⟩
          go_wp2_with fail
          refine (C4.out w1 HW1.out).mono ?_
          rintro e w' ⟨rfl, rfl⟩
          go_wp2
          go_ret
          exact ⟨by show Ending.returned (.bool (!decide (n ≤ M))) = _; rw [decide_eq_false (by omega)]; rfl, HB1.out⟩
      · have g7 : ¬ S ≠ 0 := by omega
        rw [decide_eq_false g7, Bool.false_and, Bool.false_and] at hM0
        subst hM0
        go_enter Tryd.func6, Tryd.ntmps6
        go_wp2_with fail
        refine HA.out.mono ?_
        rintro e w1 ⟨rfl, b1⟩
        have HB1 := Lib.hid b1
        have HW1 := Lib.hid (HW.out.under b1)
        clear b1 HA HW
        go_wp2_with fail
        refine (C1.out w1 HW1.out).mono ?_
        rintro e w' ⟨rfl, rfl⟩
        go_wp2_with fail
        refine (C2.out w1 HW1.out).mono ?_
        rintro e w' ⟨rfl, rfl⟩
        go_wp2_with fail
        refine (C3.out w1 HW1.out).mono ?_
        rintro e w' ⟨rfl, rfl⟩
        go_wp2_with fail
        refine (C4.out w1 HW1.out).mono ?_
        rintro e w' ⟨rfl, rfl⟩
        go_wp2
        go_ret
        exact ⟨by show Ending.returned (.bool (!decide (n ≤ M))) = _; rw [decide_eq_false (by omega)]; rfl, HB1.out⟩

set_option maxHeartbeats 1000000 in
theorem varsFits_walk (v n : Int) (w : World) (wv : (Lit.int .i64 v).wf = true) (wn : (Lit.int .i64 n).wf = true) (hw : Wd w) :
    Calls Tryd.prog 6 #[.int .i64 v, .int .i64 n] w fun e w' => e = .returned (.bool true) ∧ Below w.heap.size w w' := by
  by_cases h : 0 ≤ v ∧ v < 96
  · exact varsFits_in v n w hw h
  · have HA := Lib.hid (awake02_any w hw)
    have HW := Lib.hid hw; clear hw
    have c1 := width_any v
    have c4 := may_var v n
    rw [widthOf, vrow_out h] at c1
    rw [show mayOf v n = false from by simp [mayOf, h]] at c4
    have C1 := Lib.hid c1; have C4 := Lib.hid c4; clear c1 c4
    obtain h1 | ⟨h1, h2⟩ : v < 0 ∨ (¬ v < 0 ∧ 96 ≤ v) := by omega
    · clear h
      go_enter Tryd.func6, Tryd.ntmps6
      go_wp2_with fail
      refine HA.out.mono ?_
      rintro e w1 ⟨rfl, b1⟩
      have HB1 := Lib.hid b1
      have HW1 := Lib.hid (HW.out.under b1)
      clear b1 HA HW
      go_wp2_with fail
      refine (C1.out w1 HW1.out).mono ?_
      rintro e w' ⟨rfl, rfl⟩
      go_wp2_with fail
      refine (C4.out w1 HW1.out).mono ?_
      rintro e w' ⟨rfl, rfl⟩
      go_wp2
      go_ret
      exact ⟨rfl, HB1.out⟩
    · clear h
      go_enter Tryd.func6, Tryd.ntmps6
      go_wp2_with fail
      refine HA.out.mono ?_
      rintro e w1 ⟨rfl, b1⟩
      have HB1 := Lib.hid b1
      have HW1 := Lib.hid (HW.out.under b1)
      clear b1 HA HW
      go_wp2_with fail
      refine (C1.out w1 HW1.out).mono ?_
      rintro e w' ⟨rfl, rfl⟩
      go_wp2_with fail
      refine (C4.out w1 HW1.out).mono ?_
      rintro e w' ⟨rfl, rfl⟩
      go_wp2
      go_ret
      exact ⟨rfl, HB1.out⟩
end Go.Proofs.YtijececmengdmaaDoor
