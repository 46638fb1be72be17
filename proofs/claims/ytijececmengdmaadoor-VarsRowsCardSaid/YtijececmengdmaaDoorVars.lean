/-
  Contracts of package vars, for every number: what each function answers is what the table says. The widths' variable must hold the table's widths (Wd).
-/
import Derived.Test.YtijececmengdmaaDoorMem
import Derived.Test.YtijececmengdmaaDoorVarsTable
import Derived.Deep.DeepCutAuto
import Derived.StillTailTactics
namespace Go.Proofs.YtijececmengdmaaDoor
open Go.RowKit

/-- The variable vars.widths holds the widths of the table. -/
def Wd (w : World) : Prop := ∀ i, i < 96 → w.cell? ⟨0, i, none⟩ = some (.int .i64 (((vrows.getD i vnone).width : Nat) : Int))
theorem Wd.under {w w' : World} (h : Wd w) (hb : Below w.heap.size w w') : Wd w' := fun i hi => by
  rw [hb.cell (cell_block (h i hi))]; exact h i hi

/-- Two strings compared. -/
theorem bytes_beq (a b : ByteArray) : (a.toList == b.toList) = decide (a = b) := by
  rw [ByteArray.toList_eq, ByteArray.toList_eq]
  by_cases h : a = b
  · simp [h]
  · have : a.data.toList ≠ b.data.toList := fun e => h (by
      cases a; cases b
      simp only [ByteArray.mk.injEq]
      exact Array.toList_inj.1 e)
    rw [beq_eq_false_iff_ne.2 this, decide_eq_false h]

theorem exists_yes (v : Int) (h0 : 0 ≤ v) (h1 : v < 96) (w : World) :
    Calls Tryd.prog 21 #[.int .i64 v] w fun e w' => e = .returned (.bool true) ∧ w = w' := by
  go_enter Tryd.func21, Tryd.ntmps21
  go_wp2
  go_ret
  exact ⟨rfl, rfl⟩
theorem exists_no (v : Int) (h : ¬ (0 ≤ v ∧ v < 96)) (w : World) :
    Calls Tryd.prog 21 #[.int .i64 v] w fun e w' => e = .returned (.bool false) ∧ w = w' := by
  by_cases h0 : 0 ≤ v
  · have h1 : ¬ v < 96 := by omega
    clear h
    go_enter Tryd.func21, Tryd.ntmps21
    go_wp2
    go_ret
    exact ⟨rfl, rfl⟩
  · clear h
    go_enter Tryd.func21, Tryd.ntmps21
    go_wp2
    go_ret
    exact ⟨rfl, rfl⟩

theorem width_any (v : Int) (w : World) (hw : Wd w) :
    Calls Tryd.prog 9 #[.int .i64 v] w fun e w' => e = .returned (.int .i64 ((widthOf v : Nat) : Int)) ∧ w = w' := by
  by_cases h : 0 ≤ v ∧ v < 96
  · have hc := hw v.toNat (by omega)
    rw [widthOf, vrow_in h]
    generalize (vrows.getD v.toNat vnone).width = W at *
    obtain ⟨h0, h1⟩ := h
    have HW := Lib.hid hw; clear hw
    go_enter Tryd.func9, Tryd.ntmps9
    go_wp2_with fail
    refine (exists_yes v h0 h1 w).mono ?_
    rintro e w' ⟨rfl, rfl⟩
    go_wp2
    go_ret
    exact ⟨rfl, rfl⟩
  · rw [widthOf, vrow_out h]
    have H := Lib.hid h; clear h hw
    go_enter Tryd.func9, Tryd.ntmps9
    go_wp2_with fail
    refine (exists_no v H.out w).mono ?_
    rintro e w' ⟨rfl, rfl⟩
    go_wp2
    go_ret
    exact ⟨rfl, rfl⟩

theorem width_le (v : Int) : widthOf v ≤ 32 := by
  by_cases h : 0 ≤ v ∧ v < 96
  · have := vall (fun i => decide ((vrows.getD i vnone).width ≤ 32)) (by decide +kernel) v h.1 h.2
    rw [widthOf, vrow_in h]; exact of_decide_eq_true this
  · rw [widthOf, vrow_out h]; decide

theorem greatest_any (v : Int) (w : World) (hw : Wd w) :
    Calls Tryd.prog 23 #[.int .i64 v] w fun e w' => e = .returned (.int .i64 (greatestOf v)) ∧ w = w' := by
  have hle := width_le v
  have c := width_any v w hw
  rw [greatestOf]
  generalize widthOf v = W at *
  obtain ⟨P, hP⟩ : ∃ P, P = 2 ^ W := ⟨_, rfl⟩
  have hP1 : 1 ≤ P := by rw [hP]; exact Nat.one_le_two_pow
  have hP2 : P ≤ 2 ^ 32 := by rw [hP]; exact Nat.pow_le_pow_right (by omega) hle
  have e : ((2 : Int) ^ W) = (P : Int) := by rw [hP]; simp
  rw [e]
  have C := Lib.hid c; clear c
  have HP := Lib.hid hP; clear hP
  have HW := Lib.hid hw; clear hw
  go_enter Tryd.func23, Tryd.ntmps23
  go_wp2_with fail
  refine C.out.mono ?_
  rintro e w' ⟨rfl, rfl⟩
  go_wp2
  go_ret
  exact ⟨rfl, rfl⟩

theorem special_none (v : Int) (h : ¬ (v = 38 ∨ v = 43 ∨ v = 20 ∨ v = 52 ∨ v = 58)) : specialOf v = 0 := by
  by_cases hv : 0 ≤ v ∧ v < 96
  · have := vall (fun i => decide ((vrows.getD i vnone).special < 0 ∨ i = 38 ∨ i = 43 ∨ i = 20 ∨ i = 52 ∨ i = 58)) (by decide +kernel) v hv.1 hv.2
    have := of_decide_eq_true this
    rw [specialOf, vrow_in hv, if_pos (by omega)]
  · rw [specialOf, vrow_out hv]; rfl

theorem special_any (v : Int) (w : World) :
    Calls Tryd.prog 13 #[.int .i64 v] w fun e w' => e = .returned (.int .i64 (specialOf v)) ∧ w = w' := by
  by_cases h : v = 38 ∨ v = 43 ∨ v = 20 ∨ v = 52 ∨ v = 58
  · rcases h with rfl | rfl | rfl | rfl | rfl
    all_goals
      go_enter Tryd.func13, Tryd.ntmps13
      go_wp2
      go_ret
      exact ⟨by kernel_rfl, rfl⟩
  · rw [special_none v h]
    have h1 : v ≠ 38 := by omega
    have h2 : v ≠ 43 := by omega
    have h3 : v ≠ 20 := by omega
    have h4 : v ≠ 52 := by omega
    have h5 : v ≠ 58 := by omega
    clear h
    go_enter Tryd.func13, Tryd.ntmps13
    go_wp2
    go_ret
    exact ⟨rfl, rfl⟩

theorem most_else (v : Int) (h : ¬ (v = 81 ∨ v = 6 ∨ v = 8 ∨ v = 14 ∨ v = 15 ∨ v = 21 ∨ v = 46 ∨ v = 57 ∨ v = 71 ∨ v = 87 ∨ v = 23 ∨ v = 22 ∨ v = 20 ∨ v = 25 ∨ v = 38 ∨ v = 43 ∨ v = 52 ∨ v = 55 ∨ v = 58 ∨ v = 78 ∨ v = 85)) : mostOf v = greatestOf v := by
  by_cases hv : 0 ≤ v ∧ v < 96
  · have := vall (fun i => decide ((vrows.getD i vnone).most < 0 ∨ i = 81 ∨ i = 6 ∨ i = 8 ∨ i = 14 ∨ i = 15 ∨ i = 21 ∨ i = 46 ∨ i = 57 ∨ i = 71 ∨ i = 87 ∨ i = 23 ∨ i = 22 ∨ i = 20 ∨ i = 25 ∨ i = 38 ∨ i = 43 ∨ i = 52 ∨ i = 55 ∨ i = 58 ∨ i = 78 ∨ i = 85)) (by decide +kernel) v hv.1 hv.2
    have := of_decide_eq_true this
    rw [mostOf, vrow_in hv, if_pos (by omega), greatestOf]
  · rw [mostOf, greatestOf, widthOf, vrow_out hv]; rfl

set_option maxHeartbeats 2000000 in
set_option maxRecDepth 100000 in
theorem most_any (v : Int) (w : World) (hw : Wd w) :
    Calls Tryd.prog 11 #[.int .i64 v] w fun e w' => e = .returned (.int .i64 (mostOf v)) ∧ w = w' := by
  by_cases h : v = 81 ∨ v = 6 ∨ v = 8 ∨ v = 14 ∨ v = 15 ∨ v = 21 ∨ v = 46 ∨ v = 57 ∨ v = 71 ∨ v = 87 ∨ v = 23 ∨ v = 22 ∨ v = 20 ∨ v = 25 ∨ v = 38 ∨ v = 43 ∨ v = 52 ∨ v = 55 ∨ v = 58 ∨ v = 78 ∨ v = 85
  · clear hw
    rcases h with rfl | rfl | rfl | rfl | rfl | rfl | rfl | rfl | rfl | rfl | rfl | rfl | rfl | rfl | rfl | rfl | rfl | rfl | rfl | rfl | rfl
    all_goals
      go_enter Tryd.func11, Tryd.ntmps11
      go_wp2
      go_ret
      exact ⟨by kernel_rfl, rfl⟩
  · rw [most_else v h]
    have c := greatest_any v w hw
    generalize greatestOf v = G at *
    have C := Lib.hid c; clear c hw
    have h81 : v ≠ 81 := by omega
    have h6 : v ≠ 6 := by omega
    have h8 : v ≠ 8 := by omega
    have h14 : v ≠ 14 := by omega
    have h15 : v ≠ 15 := by omega
    have h21 : v ≠ 21 := by omega
    have h46 : v ≠ 46 := by omega
    have h57 : v ≠ 57 := by omega
    have h71 : v ≠ 71 := by omega
    have h87 : v ≠ 87 := by omega
    have h23 : v ≠ 23 := by omega
    have h22 : v ≠ 22 := by omega
    have h20 : v ≠ 20 := by omega
    have h25 : v ≠ 25 := by omega
    have h38 : v ≠ 38 := by omega
    have h43 : v ≠ 43 := by omega
    have h52 : v ≠ 52 := by omega
    have h55 : v ≠ 55 := by omega
    have h58 : v ≠ 58 := by omega
    have h78 : v ≠ 78 := by omega
    have h85 : v ≠ 85 := by omega
    clear h
    go_enter Tryd.func11, Tryd.ntmps11
    go_wp2_with fail
    refine C.out.mono ?_
    rintro e w' ⟨rfl, rfl⟩
    go_wp2
    go_ret
    exact ⟨rfl, rfl⟩
end Go.Proofs.YtijececmengdmaaDoor
