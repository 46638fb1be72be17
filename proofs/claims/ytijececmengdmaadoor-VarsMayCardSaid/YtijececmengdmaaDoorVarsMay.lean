/-
  The contract of vars.May, for every variable's number and every value.
-/
import Derived.Test.YtijececmengdmaaDoorVars
namespace Go.Proofs.YtijececmengdmaaDoor
open Go.RowKit

set_option maxHeartbeats 1000000 in
theorem may_var (v n : Int) (w : World) (hw : Wd w) :
    Calls Tryd.prog 17 #[.int .i64 v, .int .i64 n] w fun e w' => e = .returned (.bool (mayOf v n)) ∧ w = w' := by
  by_cases h : 0 ≤ v ∧ v < 96
  · by_cases hn : 0 ≤ n
    · have hm : mayOf v n = (decide (n ≤ mostOf v) || (decide (specialOf v ≠ 0) && decide (specialOf v ≤ n) && decide (n ≤ greatestOf v))) := by simp [mayOf, h, hn]
      rw [hm]
      clear hm
      have c1 := most_any v w hw
      have c2 := greatest_any v w hw
      have c3 := special_any v w
      generalize mostOf v = M at *
      generalize greatestOf v = G at *
      generalize specialOf v = S at *
      obtain ⟨h0, h1⟩ := h
      have C1 := Lib.hid c1; have C2 := Lib.hid c2; have C3 := Lib.hid c3; clear c1 c2 c3 hw
      by_cases hM : n ≤ M
      · rw [decide_eq_true hM, Bool.true_or]
        go_enter Tryd.func17, Tryd.ntmps17
        go_wp2_with fail
        refine (exists_yes v h0 h1 w).mono ?_
        rintro e w' ⟨rfl, rfl⟩
        go_wp2_with fail
        refine C3.out.mono ?_
        rintro e w' ⟨rfl, rfl⟩
        go_wp2_with fail
        refine C1.out.mono ?_
        rintro e w' ⟨rfl, rfl⟩
        go_wp2
        go_ret
        exact ⟨rfl, rfl⟩
      · rw [decide_eq_false hM, Bool.false_or]
        by_cases hS : S ≠ 0 ∧ S ≤ n
        · have e1 : (decide (S ≠ 0) && decide (S ≤ n) && decide (n ≤ G)) = decide (n ≤ G) := by simp [hS]
          rw [e1]
          clear e1
          obtain ⟨hS0, hSn⟩ := hS
          have hS1 : (S != 0) = true := by simp [hS0]
          obtain ⟨b, hb⟩ : ∃ b, decide (n ≤ G) = b := ⟨_, rfl⟩
          rw [hb]
          go_enter Tryd.func17, Tryd.ntmps17
          go_wp2_with fail
          refine (exists_yes v h0 h1 w).mono ?_
          rintro e w' ⟨rfl, rfl⟩
          go_wp2_with fail
          refine C3.out.mono ?_
          rintro e w' ⟨rfl, rfl⟩
          go_wp2_with fail
          refine C1.out.mono ?_
          rintro e w' ⟨rfl, rfl⟩
          go_wp2_with fail
          refine C2.out.mono ?_
          rintro e w' ⟨rfl, rfl⟩
          cases b
          · have hG : ¬ n ≤ G := of_decide_eq_false hb
            go_wp2
            go_ret
            exact ⟨by show Ending.returned (.bool (decide (n ≤ M))) = _; rw [decide_eq_false (by omega)], rfl⟩
          · have hG : n ≤ G := of_decide_eq_true hb
            go_wp2
            go_ret
            exact ⟨rfl, rfl⟩
        · have e1 : (decide (S ≠ 0) && decide (S ≤ n) && decide (n ≤ G)) = false := by
            by_cases h2 : S = 0
            · simp [h2]
            · have : ¬ S ≤ n := fun h3 => hS ⟨h2, h3⟩
              simp [this]
          rw [e1]
          clear e1
          have HS := Lib.hid hS; clear hS
          go_enter Tryd.func17, Tryd.ntmps17
          go_wp2_with fail
          refine (exists_yes v h0 h1 w).mono ?_
          rintro e w' ⟨rfl, rfl⟩
          go_wp2_with fail
          refine C3.out.mono ?_
          rintro e w' ⟨rfl, rfl⟩
          go_wp2_with fail
          refine C1.out.mono ?_
          rintro e w' ⟨rfl, rfl⟩
          by_cases h2 : S = 0
          · have hS1 : (S != 0) = false := by simp [h2]
            clear HS
            go_wp2
            go_ret
            exact ⟨by show Ending.returned (.bool (decide (n ≤ M))) = _; rw [decide_eq_false (by omega)], rfl⟩
          · have hS1 : (S != 0) = true := by simp [h2]
            have hS2 : ¬ S ≤ n := fun h3 => HS.out ⟨h2, h3⟩
            clear HS
            go_wp2
            go_ret
            exact ⟨by show Ending.returned (.bool (decide (n ≤ M))) = _; rw [decide_eq_false (by omega)], rfl⟩
    · have hm : mayOf v n = false := by simp [mayOf, hn]
      rw [hm]
      clear hm hw
      obtain ⟨h0, h1⟩ := h
      go_enter Tryd.func17, Tryd.ntmps17
      go_wp2_with fail
      refine (exists_yes v h0 h1 w).mono ?_
      rintro e w' ⟨rfl, rfl⟩
      go_wp2
      go_ret
      exact ⟨rfl, rfl⟩
  · have hm : mayOf v n = false := by simp [mayOf, h]
    rw [hm]
    have H := Lib.hid h
    clear hm hw h
    go_enter Tryd.func17, Tryd.ntmps17
    go_wp2_with fail
    refine (exists_no v H.out w).mono ?_
    rintro e w' ⟨rfl, rfl⟩
    go_wp2
    go_ret
    exact ⟨rfl, rfl⟩
end Go.Proofs.YtijececmengdmaaDoor
