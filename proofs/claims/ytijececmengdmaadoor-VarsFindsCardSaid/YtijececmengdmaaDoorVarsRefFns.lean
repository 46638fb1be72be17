/-
  linesideref02's functions: a variable's width, values and name, as the table has them.
-/
import Derived.Test.YtijececmengdmaaDoorVarsGet
import Derived.Test.YtijececmengdmaaDoorPower
namespace Go.Proofs.YtijececmengdmaaDoor
open Go.RowKit

theorem get_row (v : Int) (w : World) (R : VRow) (hR : vrow v = R) :
    Calls Tryd.prog 22 #[.int .i64 v] w fun e w' => e = .returned (.tuple #[.agg #[.string R.name, .int .i64 ((R.width : Nat) : Int), .int .i64 R.most, .int .i64 R.special], .bool (decide (0 ≤ v ∧ v < 96))]) ∧ Below w.heap.size w w' := by
  subst hR
  exact get_any v w

set_option maxHeartbeats 1000000 in
theorem ref_width (v : Int) (w : World) :
    Calls Tryd.prog 10 #[.int .i64 v] w fun e w' => e = .returned (.int .i64 ((widthOf v : Nat) : Int)) ∧ Below w.heap.size w w' := by
  have hg := fun w => get_row v w _ rfl
  rw [widthOf]
  generalize vrow v = R at *
  have HG := Lib.hid hg; clear hg
  go_enter Tryd.func10, Tryd.ntmps10
  go_wp2_with fail
  refine (HG.out _).mono ?_
  rintro e w' ⟨rfl, hb⟩
  have HB := Lib.hid (hb.alloc hb.size (.cells #[.string R.name, .int .i64 ((R.width : Nat) : Int), .int .i64 R.most, .int .i64 R.special] 31))
  clear hb
  go_wp2
  go_ret
  exact ⟨rfl, HB.out⟩

set_option maxHeartbeats 1000000 in
theorem ref_name (v : Int) (w : World) :
    Calls Tryd.prog 16 #[.int .i64 v] w fun e w' => e = .returned (.string (nameOf v)) ∧ Below w.heap.size w w' := by
  have hg := fun w => get_row v w _ rfl
  rw [nameOf]
  generalize vrow v = R at *
  have HG := Lib.hid hg; clear hg
  go_enter Tryd.func16, Tryd.ntmps16
  go_wp2_with fail
  refine (HG.out _).mono ?_
  rintro e w' ⟨rfl, hb⟩
  have HB := Lib.hid (hb.alloc hb.size (.cells #[.string R.name, .int .i64 ((R.width : Nat) : Int), .int .i64 R.most, .int .i64 R.special] 31))
  clear hb
  go_wp2
  go_ret
  exact ⟨rfl, HB.out⟩

set_option maxHeartbeats 1000000 in
theorem ref_special (v : Int) (w : World) :
    Calls Tryd.prog 14 #[.int .i64 v] w fun e w' => e = .returned (.int .i64 (specialOf v)) ∧ Below w.heap.size w w' := by
  have hg := fun w => get_row v w _ rfl
  rw [specialOf]
  generalize vrow v = R at *
  have HG := Lib.hid hg; clear hg
  by_cases hs : R.special < 0
  · rw [if_pos hs]
    go_enter Tryd.func14, Tryd.ntmps14
    go_wp2_with fail
    refine (HG.out _).mono ?_
    rintro e w' ⟨rfl, hb⟩
    have HB := Lib.hid (hb.alloc hb.size (.cells #[.string R.name, .int .i64 ((R.width : Nat) : Int), .int .i64 R.most, .int .i64 R.special] 31))
    clear hb
    go_wp2
    go_ret
    exact ⟨rfl, HB.out⟩
  · rw [if_neg hs]
    go_enter Tryd.func14, Tryd.ntmps14
    go_wp2_with fail
    refine (HG.out _).mono ?_
    rintro e w' ⟨rfl, hb⟩
    have HB := Lib.hid (hb.alloc hb.size (.cells #[.string R.name, .int .i64 ((R.width : Nat) : Int), .int .i64 R.most, .int .i64 R.special] 31))
    clear hb
    go_wp2
    go_ret
    exact ⟨rfl, HB.out⟩

set_option maxHeartbeats 1000000 in
theorem ref_most (v : Int) (w : World) :
    Calls Tryd.prog 12 #[.int .i64 v] w fun e w' => e = .returned (.int .i64 (mostOf v)) ∧ Below w.heap.size w w' := by
  have hg := fun w => get_row v w _ rfl
  have hle := width_le v
  have h00 : ¬ (0 ≤ v ∧ v < 96) → 0 ≤ (vrow v).most := fun h => by rw [vrow_out h]; decide
  rw [mostOf]
  rw [widthOf] at *
  generalize vrow v = R at *
  have HG := Lib.hid hg; clear hg
  by_cases hs : R.most < 0
  · rw [if_pos hs]
    have hv : 0 ≤ v ∧ v < 96 := Classical.byContradiction fun h => by have := h00 h; omega
    obtain ⟨P, hP⟩ : ∃ P, P = 2 ^ R.width := ⟨_, rfl⟩
    have hP2 : P ≤ 2 ^ 32 := by rw [hP]; exact Nat.pow_le_pow_right (by omega) hle
    have hP1 : 1 ≤ P := by rw [hP]; exact Nat.one_le_two_pow
    have e : ((2 : Int) ^ R.width) = (P : Int) := by rw [hP]; simp
    rw [e]
    have HP := Lib.hid (fun w => power_any R.width P (by omega) hP w)
    clear h00 hP e
    rw [decide_eq_true hv] at HG
    clear hv
    go_enter Tryd.func12, Tryd.ntmps12
    go_wp2_with fail
    refine (HG.out _).mono ?_
    rintro e w' ⟨rfl, hb⟩
    have HB := Lib.hid (hb.alloc hb.size (.cells #[.string R.name, .int .i64 ((R.width : Nat) : Int), .int .i64 R.most, .int .i64 R.special] 31))
    clear hb
    go_wp2_with fail
    refine (HP.out _).mono ?_
    rintro e w2 ⟨rfl, rfl⟩
    go_wp2
    go_ret
    exact ⟨rfl, HB.out⟩
  · rw [if_neg hs]
    clear h00
    obtain ⟨b, hb0⟩ : ∃ b, decide (0 ≤ v ∧ v < 96) = b := ⟨_, rfl⟩
    rw [hb0] at HG
    clear hb0
    cases b
    · go_enter Tryd.func12, Tryd.ntmps12
      go_wp2_with fail
      refine (HG.out _).mono ?_
      rintro e w' ⟨rfl, hb⟩
      have HB := Lib.hid (hb.alloc hb.size (.cells #[.string R.name, .int .i64 ((R.width : Nat) : Int), .int .i64 R.most, .int .i64 R.special] 31))
      clear hb
      go_wp2
      go_ret
      exact ⟨rfl, HB.out⟩
    · go_enter Tryd.func12, Tryd.ntmps12
      go_wp2_with fail
      refine (HG.out _).mono ?_
      rintro e w' ⟨rfl, hb⟩
      have HB := Lib.hid (hb.alloc hb.size (.cells #[.string R.name, .int .i64 ((R.width : Nat) : Int), .int .i64 R.most, .int .i64 R.special] 31))
      clear hb
      go_wp2
      go_ret
      exact ⟨rfl, HB.out⟩
end Go.Proofs.YtijececmengdmaaDoor
