/-
  linesideref02.May: may a variable be a number, as the table has it.
-/
import Derived.Test.YtijececmengdmaaDoorVarsRefFns
namespace Go.Proofs.YtijececmengdmaaDoor
open Go.RowKit

theorem row_facts (v : Int) (h : 0 ≤ v ∧ v < 96) : (vrow v).most < 2 ^ (vrow v).width ∧ ((vrow v).special < 0 ∨ 0 < (vrow v).special) := by
  have := vall (fun i => decide ((vrows.getD i vnone).most < 2 ^ (vrows.getD i vnone).width ∧ ((vrows.getD i vnone).special < 0 ∨ 0 < (vrows.getD i vnone).special))) (by decide +kernel) v h.1 h.2
  rw [vrow_in h]
  exact of_decide_eq_true this

set_option maxHeartbeats 2000000 in
theorem ref_may (v n : Int) (w : World) :
    Calls Tryd.prog 18 #[.int .i64 v, .int .i64 n] w fun e w' => e = .returned (.bool (mayOf v n)) ∧ Below w.heap.size w w' := by
  have hg := fun w => get_row v w _ rfl
  by_cases h : 0 ≤ v ∧ v < 96
  · have hf := row_facts v h
    have hle := width_le v
    rw [decide_eq_true h] at hg
    rw [mayOf, decide_eq_true h, Bool.true_and, mostOf, specialOf, greatestOf, widthOf]
    rw [widthOf] at hle
    generalize vrow v = R at *
    have HG := Lib.hid hg; clear hg
    obtain ⟨hf1, hf2⟩ := hf
    obtain ⟨P, hP⟩ : ∃ P, P = 2 ^ R.width := ⟨_, rfl⟩
    have hP2 : P ≤ 2 ^ 32 := by rw [hP]; exact Nat.pow_le_pow_right (by omega) hle
    have hP1 : 1 ≤ P := by rw [hP]; exact Nat.one_le_two_pow
    have e : ((2 : Int) ^ R.width) = (P : Int) := by rw [hP]; simp
    have HP := Lib.hid (fun w => power_any R.width P (by omega) hP w)
    rw [e] at hf1 ⊢
    clear e hP hle h
    generalize hM : (if R.most < 0 then (P : Int) - 1 else R.most) = M
    generalize hS : (if R.special < 0 then 0 else R.special) = S
    by_cases hn : 0 ≤ n
    · rw [decide_eq_true hn, Bool.true_and]
      by_cases hnP : (P : Int) ≤ n
      · have e1 : (decide (n ≤ M) || (decide (S ≠ 0) && decide (S ≤ n) && decide (n ≤ (P : Int) - 1))) = false := by
          have : ¬ n ≤ M := by split at hM <;> omega
          have : ¬ n ≤ (P : Int) - 1 := by omega
          simp [*]
        rw [e1]
        clear e1 hM hS hf1 hf2
        go_enter Tryd.func18, Tryd.ntmps18
        go_wp2_with fail
        refine (HG.out _).mono ?_
        rintro e w' ⟨rfl, hb⟩
        have HB := Lib.hid (hb.alloc hb.size (.cells #[.string R.name, .int .i64 ((R.width : Nat) : Int), .int .i64 R.most, .int .i64 R.special] 31))
        clear hb
        go_wp2_with fail
        refine (HP.out _).mono ?_
        rintro e w2 ⟨rfl, rfl⟩
        go_wp2
        go_ret
        exact ⟨rfl, HB.out⟩
      · by_cases hm : R.most < 0
        · have e1 : decide (n ≤ M) = true := by rw [if_pos hm] at hM; exact decide_eq_true (by omega)
          rw [e1, Bool.true_or]
          clear e1 hM hS hf1 hf2
          go_enter Tryd.func18, Tryd.ntmps18
          go_wp2_with fail
          refine (HG.out _).mono ?_
          rintro e w' ⟨rfl, hb⟩
          have HB := Lib.hid (hb.alloc hb.size (.cells #[.string R.name, .int .i64 ((R.width : Nat) : Int), .int .i64 R.most, .int .i64 R.special] 31))
          clear hb
          go_wp2_with fail
          refine (HP.out _).mono ?_
          rintro e w2 ⟨rfl, rfl⟩
          go_wp2
          go_ret
          exact ⟨rfl, HB.out⟩
        · rw [if_neg hm] at hM
          subst hM
          by_cases hnm : n ≤ R.most
          · rw [decide_eq_true hnm, Bool.true_or]
            clear hS hf1 hf2
            go_enter Tryd.func18, Tryd.ntmps18
            go_wp2_with fail
            refine (HG.out _).mono ?_
            rintro e w' ⟨rfl, hb⟩
            have HB := Lib.hid (hb.alloc hb.size (.cells #[.string R.name, .int .i64 ((R.width : Nat) : Int), .int .i64 R.most, .int .i64 R.special] 31))
            clear hb
            go_wp2_with fail
            refine (HP.out _).mono ?_
            rintro e w2 ⟨rfl, rfl⟩
            go_wp2
            go_ret
            exact ⟨rfl, HB.out⟩
          · rw [decide_eq_false hnm, Bool.false_or]
            by_cases hs : R.special < 0
            · rw [if_pos hs] at hS
              subst hS
              have hs2 : ¬ 0 ≤ R.special := by omega
              have e1 : (decide ((0 : Int) ≠ 0) && decide (0 ≤ n) && decide (n ≤ (P : Int) - 1)) = false := by simp
              rw [e1]
              clear e1 hf1 hf2
              go_enter Tryd.func18, Tryd.ntmps18
              go_wp2_with fail
              refine (HG.out _).mono ?_
              rintro e w' ⟨rfl, hb⟩
              have HB := Lib.hid (hb.alloc hb.size (.cells #[.string R.name, .int .i64 ((R.width : Nat) : Int), .int .i64 R.most, .int .i64 R.special] 31))
              clear hb
              go_wp2_with fail
              refine (HP.out _).mono ?_
              rintro e w2 ⟨rfl, rfl⟩
              go_wp2
              go_ret
              exact ⟨by show Ending.returned (.bool (decide (R.most < 0) || decide (n ≤ R.most))) = _; rw [decide_eq_false (by omega), decide_eq_false (by omega)]; rfl, HB.out⟩
            · rw [if_neg hs] at hS
              subst hS
              by_cases hsn : R.special ≤ n
              · have e1 : (decide (R.special ≠ 0) && decide (R.special ≤ n) && decide (n ≤ (P : Int) - 1)) = true := by
                  have : R.special ≠ 0 := by omega
                  have : n ≤ (P : Int) - 1 := by omega
                  simp [*]
                rw [e1]
                clear e1 hf1 hf2
                go_enter Tryd.func18, Tryd.ntmps18
                go_wp2_with fail
                refine (HG.out _).mono ?_
                rintro e w' ⟨rfl, hb⟩
                have HB := Lib.hid (hb.alloc hb.size (.cells #[.string R.name, .int .i64 ((R.width : Nat) : Int), .int .i64 R.most, .int .i64 R.special] 31))
                clear hb
                go_wp2_with fail
                refine (HP.out _).mono ?_
                rintro e w2 ⟨rfl, rfl⟩
                go_wp2
                go_ret
                exact ⟨rfl, HB.out⟩
              · have e1 : (decide (R.special ≠ 0) && decide (R.special ≤ n) && decide (n ≤ (P : Int) - 1)) = false := by simp [hsn]
                rw [e1]
                clear e1 hf1 hf2
                go_enter Tryd.func18, Tryd.ntmps18
                go_wp2_with fail
                refine (HG.out _).mono ?_
                rintro e w' ⟨rfl, hb⟩
                have HB := Lib.hid (hb.alloc hb.size (.cells #[.string R.name, .int .i64 ((R.width : Nat) : Int), .int .i64 R.most, .int .i64 R.special] 31))
                clear hb
                go_wp2_with fail
                refine (HP.out _).mono ?_
                rintro e w2 ⟨rfl, rfl⟩
                go_wp2
                go_ret
                exact ⟨by show Ending.returned (.bool (decide (R.most < 0) || decide (n ≤ R.most) || decide (R.special ≤ n))) = _; rw [decide_eq_false (by omega), decide_eq_false (by omega), decide_eq_false (by omega)]; rfl, HB.out⟩
    · have e1 : decide (0 ≤ n) = false := decide_eq_false hn
      rw [e1, Bool.false_and]
      clear e1 hM hS hf1 hf2
      go_enter Tryd.func18, Tryd.ntmps18
      go_wp2_with fail
      refine (HG.out _).mono ?_
      rintro e w' ⟨rfl, hb⟩
      have HB := Lib.hid (hb.alloc hb.size (.cells #[.string R.name, .int .i64 ((R.width : Nat) : Int), .int .i64 R.most, .int .i64 R.special] 31))
      clear hb
      go_wp2
      go_ret
      exact ⟨rfl, HB.out⟩
  · have e1 : mayOf v n = false := by simp [mayOf, h]
    rw [e1]
    rw [decide_eq_false h] at hg
    clear e1 h
    generalize vrow v = R at *
    have HG := Lib.hid hg; clear hg
    go_enter Tryd.func18, Tryd.ntmps18
    go_wp2_with fail
    refine (HG.out _).mono ?_
    rintro e w' ⟨rfl, hb⟩
    have HB := Lib.hid (hb.alloc hb.size (.cells #[.string R.name, .int .i64 ((R.width : Nat) : Int), .int .i64 R.most, .int .i64 R.special] 31))
    clear hb
    go_wp2
    go_ret
    exact ⟨rfl, HB.out⟩
end Go.Proofs.YtijececmengdmaaDoor
