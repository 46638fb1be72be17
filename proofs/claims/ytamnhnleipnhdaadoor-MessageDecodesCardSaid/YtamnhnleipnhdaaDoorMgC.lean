/-
  VarsTable, Vars, VarsMay, Great, VarsRef, VarsGet, VarsRefFns, VarsRefMay, VarsRefFind, VarsLaid: merged.
-/
import Derived.Test.YtamnhnleipnhdaaDoorRows
import Derived.KernelRfl
import Derived.Test.YtamnhnleipnhdaaDoorMgA
import Derived.Deep.DeepCutAuto
import Derived.StillTailTactics
import Derived.WalkKit
import Derived.Great.Walk
import Derived.Laws.ResultCell
import Derived.Test.YtamnhnleipnhdaaDoorMgB
import Derived.Test.YtamnhnleipnhdaaDoorCards
import Derived.Test.YtamnhnleipnhdaaDoorTie
import Derived.ProofKit
import Derived.OpenShut
import Derived.Deep.DeepHandedRow
import Derived.Lib.LaidTab

/-
  The table of the variables of radio messages, as the document's chapter on variables gives it: a row is the name's bytes, the width, the largest plain value (-1: every value of the width) and the smallest special value (-1: none). What a number's row answers.
-/
namespace Go.Proofs.YtamnhnleipnhdaaDoor

structure VRow where
  name : ByteArray
  width : Nat
  most : Int
  special : Int

def vrows : List VRow := [
  ⟨⟨#[78, 73, 68, 95, 77, 69, 83, 83, 65, 71, 69]⟩, 8, -1, -1⟩,
  ⟨⟨#[76, 95, 77, 69, 83, 83, 65, 71, 69]⟩, 10, -1, -1⟩,
  ⟨⟨#[84, 95, 84, 82, 65, 73, 78]⟩, 32, -1, -1⟩,
  ⟨⟨#[77, 95, 65, 67, 75]⟩, 1, -1, -1⟩,
  ⟨⟨#[78, 73, 68, 95, 76, 82, 66, 71]⟩, 24, -1, -1⟩,
  ⟨⟨#[78, 73, 68, 95, 80, 65, 67, 75, 69, 84]⟩, 8, -1, -1⟩,
  ⟨⟨#[81, 95, 68, 73, 82]⟩, 2, 2, -1⟩,
  ⟨⟨#[76, 95, 80, 65, 67, 75, 69, 84]⟩, 13, -1, -1⟩,
  ⟨⟨#[81, 95, 83, 67, 65, 76, 69]⟩, 2, 2, -1⟩,
  ⟨⟨#[78, 73, 68, 95, 69, 78, 71, 73, 78, 69]⟩, 24, -1, -1⟩,
  ⟨⟨#[78, 73, 68, 95, 67]⟩, 10, -1, -1⟩,
  ⟨⟨#[78, 73, 68, 95, 66, 71]⟩, 14, -1, -1⟩,
  ⟨⟨#[81, 95, 78, 69, 87, 67, 79, 85, 78, 84, 82, 89]⟩, 1, -1, -1⟩,
  ⟨⟨#[68, 95, 76, 82, 66, 71]⟩, 15, -1, -1⟩,
  ⟨⟨#[81, 95, 68, 73, 82, 76, 82, 66, 71]⟩, 2, 2, -1⟩,
  ⟨⟨#[81, 95, 68, 76, 82, 66, 71]⟩, 2, 2, -1⟩,
  ⟨⟨#[76, 95, 68, 79, 85, 66, 84, 79, 86, 69, 82]⟩, 15, -1, -1⟩,
  ⟨⟨#[76, 95, 68, 79, 85, 66, 84, 85, 78, 68, 69, 82]⟩, 15, -1, -1⟩,
  ⟨⟨#[81, 95, 76, 69, 78, 71, 84, 72]⟩, 2, -1, -1⟩,
  ⟨⟨#[76, 95, 84, 82, 65, 73, 78, 73, 78, 84]⟩, 15, -1, -1⟩,
  ⟨⟨#[86, 95, 84, 82, 65, 73, 78]⟩, 7, 120, 127⟩,
  ⟨⟨#[81, 95, 68, 73, 82, 84, 82, 65, 73, 78]⟩, 2, 2, -1⟩,
  ⟨⟨#[77, 95, 77, 79, 68, 69]⟩, 4, 14, -1⟩,
  ⟨⟨#[77, 95, 76, 69, 86, 69, 76]⟩, 3, 4, -1⟩,
  ⟨⟨#[78, 73, 68, 95, 78, 84, 67]⟩, 8, -1, -1⟩,
  ⟨⟨#[86, 95, 69, 77, 65]⟩, 7, 120, -1⟩,
  ⟨⟨#[84, 95, 69, 77, 65]⟩, 10, -1, -1⟩,
  ⟨⟨#[78, 95, 73, 84, 69, 82]⟩, 5, -1, -1⟩,
  ⟨⟨#[76, 95, 83, 69, 67, 84, 73, 79, 78]⟩, 15, -1, -1⟩,
  ⟨⟨#[81, 95, 83, 69, 67, 84, 73, 79, 78, 84, 73, 77, 69, 82]⟩, 1, -1, -1⟩,
  ⟨⟨#[84, 95, 83, 69, 67, 84, 73, 79, 78, 84, 73, 77, 69, 82]⟩, 10, -1, -1⟩,
  ⟨⟨#[68, 95, 83, 69, 67, 84, 73, 79, 78, 84, 73, 77, 69, 82, 83, 84, 79, 80, 76, 79, 67]⟩, 15, -1, -1⟩,
  ⟨⟨#[76, 95, 69, 78, 68, 83, 69, 67, 84, 73, 79, 78]⟩, 15, -1, -1⟩,
  ⟨⟨#[81, 95, 69, 78, 68, 84, 73, 77, 69, 82]⟩, 1, -1, -1⟩,
  ⟨⟨#[84, 95, 69, 78, 68, 84, 73, 77, 69, 82]⟩, 10, -1, -1⟩,
  ⟨⟨#[68, 95, 69, 78, 68, 84, 73, 77, 69, 82, 83, 84, 65, 82, 84, 76, 79, 67]⟩, 15, -1, -1⟩,
  ⟨⟨#[81, 95, 68, 65, 78, 71, 69, 82, 80, 79, 73, 78, 84]⟩, 1, -1, -1⟩,
  ⟨⟨#[68, 95, 68, 80]⟩, 15, -1, -1⟩,
  ⟨⟨#[86, 95, 82, 69, 76, 69, 65, 83, 69, 68, 80]⟩, 7, 120, 126⟩,
  ⟨⟨#[81, 95, 79, 86, 69, 82, 76, 65, 80]⟩, 1, -1, -1⟩,
  ⟨⟨#[68, 95, 83, 84, 65, 82, 84, 79, 76]⟩, 15, -1, -1⟩,
  ⟨⟨#[84, 95, 79, 76]⟩, 10, -1, -1⟩,
  ⟨⟨#[68, 95, 79, 76]⟩, 15, -1, -1⟩,
  ⟨⟨#[86, 95, 82, 69, 76, 69, 65, 83, 69, 79, 76]⟩, 7, 120, 126⟩,
  ⟨⟨#[68, 95, 76, 73, 78, 75]⟩, 15, -1, -1⟩,
  ⟨⟨#[81, 95, 76, 73, 78, 75, 79, 82, 73, 69, 78, 84, 65, 84, 73, 79, 78]⟩, 1, -1, -1⟩,
  ⟨⟨#[81, 95, 76, 73, 78, 75, 82, 69, 65, 67, 84, 73, 79, 78]⟩, 2, 2, -1⟩,
  ⟨⟨#[81, 95, 76, 79, 67, 65, 67, 67]⟩, 6, -1, -1⟩,
  ⟨⟨#[68, 95, 71, 82, 65, 68, 73, 69, 78, 84]⟩, 15, -1, -1⟩,
  ⟨⟨#[81, 95, 71, 68, 73, 82]⟩, 1, -1, -1⟩,
  ⟨⟨#[71, 95, 65]⟩, 8, -1, -1⟩,
  ⟨⟨#[68, 95, 83, 84, 65, 84, 73, 67]⟩, 15, -1, -1⟩,
  ⟨⟨#[86, 95, 83, 84, 65, 84, 73, 67]⟩, 7, 120, 127⟩,
  ⟨⟨#[81, 95, 70, 82, 79, 78, 84]⟩, 1, -1, -1⟩,
  ⟨⟨#[78, 67, 95, 68, 73, 70, 70]⟩, 4, -1, -1⟩,
  ⟨⟨#[86, 95, 68, 73, 70, 70]⟩, 7, 120, -1⟩,
  ⟨⟨#[68, 95, 77, 65, 77, 79, 68, 69]⟩, 15, -1, -1⟩,
  ⟨⟨#[77, 95, 77, 65, 77, 79, 68, 69]⟩, 2, 2, -1⟩,
  ⟨⟨#[86, 95, 77, 65, 77, 79, 68, 69]⟩, 7, 120, 127⟩,
  ⟨⟨#[76, 95, 77, 65, 77, 79, 68, 69]⟩, 15, -1, -1⟩,
  ⟨⟨#[76, 95, 65, 67, 75, 77, 65, 77, 79, 68, 69]⟩, 15, -1, -1⟩,
  ⟨⟨#[81, 95, 77, 65, 77, 79, 68, 69]⟩, 1, -1, -1⟩,
  ⟨⟨#[81, 95, 82, 66, 67]⟩, 1, -1, -1⟩,
  ⟨⟨#[78, 73, 68, 95, 82, 66, 67]⟩, 14, -1, -1⟩,
  ⟨⟨#[78, 73, 68, 95, 82, 65, 68, 73, 79]⟩, 32, -1, -1⟩,
  ⟨⟨#[81, 95, 83, 76, 69, 69, 80, 83, 69, 83, 83, 73, 79, 78]⟩, 1, -1, -1⟩,
  ⟨⟨#[84, 95, 77, 65, 82]⟩, 8, -1, -1⟩,
  ⟨⟨#[84, 95, 84, 73, 77, 69, 79, 85, 84, 82, 81, 83, 84]⟩, 10, -1, -1⟩,
  ⟨⟨#[84, 95, 67, 89, 67, 82, 81, 83, 84]⟩, 8, -1, -1⟩,
  ⟨⟨#[84, 95, 67, 89, 67, 76, 79, 67]⟩, 8, -1, -1⟩,
  ⟨⟨#[68, 95, 67, 89, 67, 76, 79, 67]⟩, 15, -1, -1⟩,
  ⟨⟨#[77, 95, 76, 79, 67]⟩, 3, 2, -1⟩,
  ⟨⟨#[68, 95, 76, 79, 67]⟩, 15, -1, -1⟩,
  ⟨⟨#[81, 95, 76, 71, 84, 76, 79, 67]⟩, 1, -1, -1⟩,
  ⟨⟨#[78, 73, 68, 95, 80, 82, 86, 76, 82, 66, 71]⟩, 24, -1, -1⟩,
  ⟨⟨#[78, 73, 68, 95, 79, 80, 69, 82, 65, 84, 73, 79, 78, 65, 76]⟩, 32, -1, -1⟩,
  ⟨⟨#[78, 67, 95, 84, 82, 65, 73, 78]⟩, 15, -1, -1⟩,
  ⟨⟨#[76, 95, 84, 82, 65, 73, 78]⟩, 12, -1, -1⟩,
  ⟨⟨#[86, 95, 77, 65, 88, 84, 82, 65, 73, 78]⟩, 7, 120, -1⟩,
  ⟨⟨#[77, 95, 76, 79, 65, 68, 73, 78, 71, 71, 65, 85, 71, 69]⟩, 8, -1, -1⟩,
  ⟨⟨#[77, 95, 65, 88, 76, 69, 76, 79, 65, 68]⟩, 7, -1, -1⟩,
  ⟨⟨#[77, 95, 65, 73, 82, 84, 73, 71, 72, 84]⟩, 2, 1, -1⟩,
  ⟨⟨#[77, 95, 84, 82, 65, 67, 84, 73, 79, 78]⟩, 8, -1, -1⟩,
  ⟨⟨#[78, 73, 68, 95, 83, 84, 77]⟩, 8, -1, -1⟩,
  ⟨⟨#[68, 95, 86, 65, 76, 73, 68, 78, 86]⟩, 15, -1, -1⟩,
  ⟨⟨#[86, 95, 78, 86, 83, 72, 85, 78, 84]⟩, 7, 120, -1⟩,
  ⟨⟨#[84, 95, 78, 86, 67, 79, 78, 84, 65, 67, 84]⟩, 8, -1, -1⟩,
  ⟨⟨#[77, 95, 78, 86, 67, 79, 78, 84, 65, 67, 84]⟩, 2, 2, -1⟩,
  ⟨⟨#[78, 73, 68, 95, 69, 77]⟩, 4, -1, -1⟩,
  ⟨⟨#[68, 95, 82, 69, 70]⟩, 16, -1, -1⟩,
  ⟨⟨#[68, 95, 69, 77, 69, 82, 71, 69, 78, 67, 89, 83, 84, 79, 80]⟩, 15, -1, -1⟩,
  ⟨⟨#[81, 95, 69, 77, 69, 82, 71, 69, 78, 67, 89, 83, 84, 79, 80]⟩, 2, -1, -1⟩,
  ⟨⟨#[77, 95, 86, 69, 82, 83, 73, 79, 78]⟩, 7, -1, -1⟩,
  ⟨⟨#[81, 95, 83, 84, 65, 84, 85, 83]⟩, 2, -1, -1⟩,
  ⟨⟨#[81, 95, 77, 65, 82, 81, 83, 84, 82, 69, 65, 83, 79, 78]⟩, 5, -1, -1⟩,
  ⟨⟨#[68, 95, 83, 82]⟩, 15, -1, -1⟩]

def vnone : VRow := ⟨ByteArray.empty, 0, 0, 0⟩
/-- The row of variable v; the empty row where there is no v. -/
def vrow (v : Int) : VRow := if 0 ≤ v ∧ v < 96 then vrows.getD v.toNat vnone else vnone
theorem vrow_in {v : Int} (h : 0 ≤ v ∧ v < 96) : vrow v = vrows.getD v.toNat vnone := if_pos h
theorem vrow_out {v : Int} (h : ¬ (0 ≤ v ∧ v < 96)) : vrow v = vnone := if_neg h
theorem vrows_length : vrows.length = 96 := by decide

def widthOf (v : Int) : Nat := (vrow v).width
def mostOf (v : Int) : Int := if (vrow v).most < 0 then 2 ^ widthOf v - 1 else (vrow v).most
def specialOf (v : Int) : Int := if (vrow v).special < 0 then 0 else (vrow v).special
def nameOf (v : Int) : ByteArray := (vrow v).name
def greatestOf (v : Int) : Int := 2 ^ widthOf v - 1
/-- May variable v be n? -/
def mayOf (v n : Int) : Bool := decide (0 ≤ v ∧ v < 96) && decide (0 ≤ n) && (decide (n ≤ mostOf v) || (decide (specialOf v ≠ 0) && decide (specialOf v ≤ n) && decide (n ≤ greatestOf v)))
/-- The first variable from number i on, of those in the list, that is called s; -1: none. -/
def findFrom (s : ByteArray) : List VRow → Nat → Int
  | [], _ => -1
  | r :: l, i => if r.name = s then (i : Int) else findFrom s l (i + 1)
def findOf (s : ByteArray) : Int := findFrom s vrows 0

/-- A fact of every number from 0 to 95, asked of each. -/
theorem vall (p : Nat → Bool) (h : (List.range 96).all p = true) (v : Int) (h0 : 0 ≤ v) (h1 : v < 96) : p v.toNat = true :=
  List.all_eq_true.1 h v.toNat (List.mem_range.2 (by omega))
end Go.Proofs.YtamnhnleipnhdaaDoor

/-
  Contracts of package vars, for every number: what each function answers is what the table says. The widths' variable must hold the table's widths (Wd).
-/
namespace Go.Proofs.YtamnhnleipnhdaaDoor

open Go.RowKit

/-- The variable vars.widths holds the widths of the table. -/
def Wd (w : World) : Prop := ∀ i, i < 96 → w.cell? ⟨0, i, none⟩ = some (.int .i64 (((vrows.getD i vnone).width : Nat) : Int))
theorem Wd.under {w w' : World} (h : Wd w) (hb : Below w.heap.size w w') : Wd w' := fun i hi => by
  rw [hb.cell (cell_block (h i hi))]; exact h i hi

/-- Two strings compared. -/
theorem bytes_beq (a b : ByteArray) : (a.toList == b.toList) = decide (a = b) := by
  rw [ByteArray.toList_eq, ByteArray.toList_eq]
  by_cases h : a = b
  · simp [h]
  · have : a.data.toList ≠ b.data.toList := fun e => h (by
      cases a; cases b
      simp only [ByteArray.mk.injEq]
      exact Array.toList_inj.1 e)
    rw [beq_eq_false_iff_ne.2 this, decide_eq_false h]

theorem exists_yes (v : Int) (h0 : 0 ≤ v) (h1 : v < 96) (w : World) :
    Calls Tryd.prog 79 #[.int .i64 v] w fun e w' => e = .returned (.bool true) ∧ w = w' := by
  go_enter Tryd.func79, Tryd.ntmps79
  go_wp2
  go_ret
  exact ⟨rfl, rfl⟩
theorem exists_no (v : Int) (h : ¬ (0 ≤ v ∧ v < 96)) (w : World) :
    Calls Tryd.prog 79 #[.int .i64 v] w fun e w' => e = .returned (.bool false) ∧ w = w' := by
  by_cases h0 : 0 ≤ v
  · have h1 : ¬ v < 96 := by omega
    clear h
    go_enter Tryd.func79, Tryd.ntmps79
    go_wp2
    go_ret
    exact ⟨rfl, rfl⟩
  · clear h
    go_enter Tryd.func79, Tryd.ntmps79
    go_wp2
    go_ret
    exact ⟨rfl, rfl⟩

theorem width_any (v : Int) (w : World) (hw : Wd w) :
    Calls Tryd.prog 56 #[.int .i64 v] w fun e w' => e = .returned (.int .i64 ((widthOf v : Nat) : Int)) ∧ w = w' := by
  by_cases h : 0 ≤ v ∧ v < 96
  · have hc := hw v.toNat (by omega)
    rw [widthOf, vrow_in h]
    generalize (vrows.getD v.toNat vnone).width = W at *
    obtain ⟨h0, h1⟩ := h
    have HW := Lib.hid hw; clear hw
    go_enter Tryd.func56, Tryd.ntmps56
    go_wp2_with fail
    refine (exists_yes v h0 h1 w).mono ?_
    rintro e w' ⟨rfl, rfl⟩
    go_wp2
    go_ret
    exact ⟨rfl, rfl⟩
  · rw [widthOf, vrow_out h]
    have H := Lib.hid h; clear h hw
    go_enter Tryd.func56, Tryd.ntmps56
    go_wp2_with fail
    refine (exists_no v H.out w).mono ?_
    rintro e w' ⟨rfl, rfl⟩
    go_wp2
    go_ret
    exact ⟨rfl, rfl⟩

theorem width_le (v : Int) : widthOf v ≤ 32 := by
  by_cases h : 0 ≤ v ∧ v < 96
  · have := vall (fun i => decide ((vrows.getD i vnone).width ≤ 32)) (by decide +kernel) v h.1 h.2
    rw [widthOf, vrow_in h]; exact of_decide_eq_true this
  · rw [widthOf, vrow_out h]; decide

theorem greatest_any (v : Int) (w : World) (hw : Wd w) :
    Calls Tryd.prog 82 #[.int .i64 v] w fun e w' => e = .returned (.int .i64 (greatestOf v)) ∧ w = w' := by
  have hle := width_le v
  have c := width_any v w hw
  rw [greatestOf]
  generalize widthOf v = W at *
  obtain ⟨P, hP⟩ : ∃ P, P = 2 ^ W := ⟨_, rfl⟩
  have hP1 : 1 ≤ P := by rw [hP]; exact Nat.one_le_two_pow
  have hP2 : P ≤ 2 ^ 32 := by rw [hP]; exact Nat.pow_le_pow_right (by omega) hle
  have e : ((2 : Int) ^ W) = (P : Int) := by rw [hP]; simp
  rw [e]
  have C := Lib.hid c; clear c
  have HP := Lib.hid hP; clear hP
  have HW := Lib.hid hw; clear hw
  go_enter Tryd.func82, Tryd.ntmps82
  go_wp2_with fail
  refine C.out.mono ?_
  rintro e w' ⟨rfl, rfl⟩
  go_wp2
  go_ret
  exact ⟨rfl, rfl⟩

theorem special_none (v : Int) (h : ¬ (v = 38 ∨ v = 43 ∨ v = 20 ∨ v = 52 ∨ v = 58)) : specialOf v = 0 := by
  by_cases hv : 0 ≤ v ∧ v < 96
  · have := vall (fun i => decide ((vrows.getD i vnone).special < 0 ∨ i = 38 ∨ i = 43 ∨ i = 20 ∨ i = 52 ∨ i = 58)) (by decide +kernel) v hv.1 hv.2
    have := of_decide_eq_true this
    rw [specialOf, vrow_in hv, if_pos (by omega)]
  · rw [specialOf, vrow_out hv]; rfl

theorem special_any (v : Int) (w : World) :
    Calls Tryd.prog 80 #[.int .i64 v] w fun e w' => e = .returned (.int .i64 (specialOf v)) ∧ w = w' := by
  by_cases h : v = 38 ∨ v = 43 ∨ v = 20 ∨ v = 52 ∨ v = 58
  · rcases h with rfl | rfl | rfl | rfl | rfl
    all_goals
      go_enter Tryd.func80, Tryd.ntmps80
      go_wp2
      go_ret
      exact ⟨by kernel_rfl, rfl⟩
  · rw [special_none v h]
    have h1 : v ≠ 38 := by omega
    have h2 : v ≠ 43 := by omega
    have h3 : v ≠ 20 := by omega
    have h4 : v ≠ 52 := by omega
    have h5 : v ≠ 58 := by omega
    clear h
    go_enter Tryd.func80, Tryd.ntmps80
    go_wp2
    go_ret
    exact ⟨rfl, rfl⟩

theorem most_else (v : Int) (h : ¬ (v = 81 ∨ v = 6 ∨ v = 8 ∨ v = 14 ∨ v = 15 ∨ v = 21 ∨ v = 46 ∨ v = 57 ∨ v = 71 ∨ v = 87 ∨ v = 23 ∨ v = 22 ∨ v = 20 ∨ v = 25 ∨ v = 38 ∨ v = 43 ∨ v = 52 ∨ v = 55 ∨ v = 58 ∨ v = 78 ∨ v = 85)) : mostOf v = greatestOf v := by
  by_cases hv : 0 ≤ v ∧ v < 96
  · have := vall (fun i => decide ((vrows.getD i vnone).most < 0 ∨ i = 81 ∨ i = 6 ∨ i = 8 ∨ i = 14 ∨ i = 15 ∨ i = 21 ∨ i = 46 ∨ i = 57 ∨ i = 71 ∨ i = 87 ∨ i = 23 ∨ i = 22 ∨ i = 20 ∨ i = 25 ∨ i = 38 ∨ i = 43 ∨ i = 52 ∨ i = 55 ∨ i = 58 ∨ i = 78 ∨ i = 85)) (by decide +kernel) v hv.1 hv.2
    have := of_decide_eq_true this
    rw [mostOf, vrow_in hv, if_pos (by omega), greatestOf]
  · rw [mostOf, greatestOf, widthOf, vrow_out hv]; rfl

set_option maxHeartbeats 2000000 in
set_option maxRecDepth 100000 in
theorem most_any (v : Int) (w : World) (hw : Wd w) :
    Calls Tryd.prog 81 #[.int .i64 v] w fun e w' => e = .returned (.int .i64 (mostOf v)) ∧ w = w' := by
  by_cases h : v = 81 ∨ v = 6 ∨ v = 8 ∨ v = 14 ∨ v = 15 ∨ v = 21 ∨ v = 46 ∨ v = 57 ∨ v = 71 ∨ v = 87 ∨ v = 23 ∨ v = 22 ∨ v = 20 ∨ v = 25 ∨ v = 38 ∨ v = 43 ∨ v = 52 ∨ v = 55 ∨ v = 58 ∨ v = 78 ∨ v = 85
  · clear hw
    rcases h with rfl | rfl | rfl | rfl | rfl | rfl | rfl | rfl | rfl | rfl | rfl | rfl | rfl | rfl | rfl | rfl | rfl | rfl | rfl | rfl | rfl
    all_goals
      go_enter Tryd.func81, Tryd.ntmps81
      go_wp2
      go_ret
      exact ⟨by kernel_rfl, rfl⟩
  · rw [most_else v h]
    have c := greatest_any v w hw
    generalize greatestOf v = G at *
    have C := Lib.hid c; clear c hw
    have h81 : v ≠ 81 := by omega
    have h6 : v ≠ 6 := by omega
    have h8 : v ≠ 8 := by omega
    have h14 : v ≠ 14 := by omega
    have h15 : v ≠ 15 := by omega
    have h21 : v ≠ 21 := by omega
    have h46 : v ≠ 46 := by omega
    have h57 : v ≠ 57 := by omega
    have h71 : v ≠ 71 := by omega
    have h87 : v ≠ 87 := by omega
    have h23 : v ≠ 23 := by omega
    have h22 : v ≠ 22 := by omega
    have h20 : v ≠ 20 := by omega
    have h25 : v ≠ 25 := by omega
    have h38 : v ≠ 38 := by omega
    have h43 : v ≠ 43 := by omega
    have h52 : v ≠ 52 := by omega
    have h55 : v ≠ 55 := by omega
    have h58 : v ≠ 58 := by omega
    have h78 : v ≠ 78 := by omega
    have h85 : v ≠ 85 := by omega
    clear h
    go_enter Tryd.func81, Tryd.ntmps81
    go_wp2_with fail
    refine C.out.mono ?_
    rintro e w' ⟨rfl, rfl⟩
    go_wp2
    go_ret
    exact ⟨rfl, rfl⟩
end Go.Proofs.YtamnhnleipnhdaaDoor

/-
  The contract of vars.May, for every variable's number and every value.
-/
namespace Go.Proofs.YtamnhnleipnhdaaDoor

open Go.RowKit

set_option maxHeartbeats 1000000 in
theorem may_var (v n : Int) (w : World) (hw : Wd w) :
    Calls Tryd.prog 55 #[.int .i64 v, .int .i64 n] w fun e w' => e = .returned (.bool (mayOf v n)) ∧ w = w' := by
  by_cases h : 0 ≤ v ∧ v < 96
  · by_cases hn : 0 ≤ n
    · have hm : mayOf v n = (decide (n ≤ mostOf v) || (decide (specialOf v ≠ 0) && decide (specialOf v ≤ n) && decide (n ≤ greatestOf v))) := by simp [mayOf, h, hn]
      rw [hm]
      clear hm
      have c1 := most_any v w hw
      have c2 := greatest_any v w hw
      have c3 := special_any v w
      generalize mostOf v = M at *
      generalize greatestOf v = G at *
      generalize specialOf v = S at *
      obtain ⟨h0, h1⟩ := h
      have C1 := Lib.hid c1; have C2 := Lib.hid c2; have C3 := Lib.hid c3; clear c1 c2 c3 hw
      by_cases hM : n ≤ M
      · rw [decide_eq_true hM, Bool.true_or]
        go_enter Tryd.func55, Tryd.ntmps55
        go_wp2_with fail
        refine (exists_yes v h0 h1 w).mono ?_
        rintro e w' ⟨rfl, rfl⟩
        go_wp2_with fail
        refine C3.out.mono ?_
        rintro e w' ⟨rfl, rfl⟩
        go_wp2_with fail
        refine C1.out.mono ?_
        rintro e w' ⟨rfl, rfl⟩
        go_wp2
        go_ret
        exact ⟨rfl, rfl⟩
      · rw [decide_eq_false hM, Bool.false_or]
        by_cases hS : S ≠ 0 ∧ S ≤ n
        · have e1 : (decide (S ≠ 0) && decide (S ≤ n) && decide (n ≤ G)) = decide (n ≤ G) := by simp [hS]
          rw [e1]
          clear e1
          obtain ⟨hS0, hSn⟩ := hS
          have hS1 : (S != 0) = true := by simp [hS0]
          obtain ⟨b, hb⟩ : ∃ b, decide (n ≤ G) = b := ⟨_, rfl⟩
          rw [hb]
          go_enter Tryd.func55, Tryd.ntmps55
          go_wp2_with fail
          refine (exists_yes v h0 h1 w).mono ?_
          rintro e w' ⟨rfl, rfl⟩
          go_wp2_with fail
          refine C3.out.mono ?_
          rintro e w' ⟨rfl, rfl⟩
          go_wp2_with fail
          refine C1.out.mono ?_
          rintro e w' ⟨rfl, rfl⟩
          go_wp2_with fail
          refine C2.out.mono ?_
          rintro e w' ⟨rfl, rfl⟩
          cases b
          · have hG : ¬ n ≤ G := of_decide_eq_false hb
            go_wp2
            go_ret
            exact ⟨by show Ending.returned (.bool (decide (n ≤ M))) = _; rw [decide_eq_false (by omega)], rfl⟩
          · have hG : n ≤ G := of_decide_eq_true hb
            go_wp2
            go_ret
            exact ⟨rfl, rfl⟩
        · have e1 : (decide (S ≠ 0) && decide (S ≤ n) && decide (n ≤ G)) = false := by
            by_cases h2 : S = 0
            · simp [h2]
            · have : ¬ S ≤ n := fun h3 => hS ⟨h2, h3⟩
              simp [this]
          rw [e1]
          clear e1
          have HS := Lib.hid hS; clear hS
          go_enter Tryd.func55, Tryd.ntmps55
          go_wp2_with fail
          refine (exists_yes v h0 h1 w).mono ?_
          rintro e w' ⟨rfl, rfl⟩
          go_wp2_with fail
          refine C3.out.mono ?_
          rintro e w' ⟨rfl, rfl⟩
          go_wp2_with fail
          refine C1.out.mono ?_
          rintro e w' ⟨rfl, rfl⟩
          by_cases h2 : S = 0
          · have hS1 : (S != 0) = false := by simp [h2]
            clear HS
            go_wp2
            go_ret
            exact ⟨by show Ending.returned (.bool (decide (n ≤ M))) = _; rw [decide_eq_false (by omega)], rfl⟩
          · have hS1 : (S != 0) = true := by simp [h2]
            have hS2 : ¬ S ≤ n := fun h3 => HS.out ⟨h2, h3⟩
            clear HS
            go_wp2
            go_ret
            exact ⟨by show Ending.returned (.bool (decide (n ≤ M))) = _; rw [decide_eq_false (by omega)], rfl⟩
    · have hm : mayOf v n = false := by simp [mayOf, hn]
      rw [hm]
      clear hm hw
      obtain ⟨h0, h1⟩ := h
      go_enter Tryd.func55, Tryd.ntmps55
      go_wp2_with fail
      refine (exists_yes v h0 h1 w).mono ?_
      rintro e w' ⟨rfl, rfl⟩
      go_wp2
      go_ret
      exact ⟨rfl, rfl⟩
  · have hm : mayOf v n = false := by simp [mayOf, h]
    rw [hm]
    have H := Lib.hid h
    clear hm hw h
    go_enter Tryd.func55, Tryd.ntmps55
    go_wp2_with fail
    refine (exists_no v H.out w).mono ?_
    rintro e w' ⟨rfl, rfl⟩
    go_wp2
    go_ret
    exact ⟨rfl, rfl⟩
end Go.Proofs.YtamnhnleipnhdaaDoor

/-
  A long row of operations walked at once, where it runs on closed terms: what it comes to is one closed fact.
-/
namespace Go.Proofs.YtamnhnleipnhdaaDoor

open Go.RowKit

/-- The frame and the world behind a list of operations, each of which yields a value. -/
def runOps (P : Program) : List Oper → Act → World → Option (Act × World)
  | [], a, w => some (a, w)
  | o :: l, a, w => match o.guard with
    | some _ => none
    | none => match (execOp a.eval o).run P w with
      | .ok (.value v) w' => runOps P l (a.put o.dst v) w'
      | _ => none

theorem wpList_runOps {P : Program} {ops : Array Oper} {Q : Exit → Act → World → Prop} : ∀ (l : List Oper) (a : Act) (w : World) (a' : Act) (w' : World),
    runOps P l a w = some (a', w') → wpList P ops Q [] a' w' → wpList P ops Q l a w
  | [], a, w, a', w', h, k => by
    simp only [runOps, Option.some.injEq, Prod.mk.injEq] at h
    obtain ⟨rfl, rfl⟩ := h
    exact k
  | o :: l, a, w, a', w', h, k => by
    unfold runOps at h
    split at h
    · cases h
    · rename_i hg
      split at h
      · rename_i v w1 hr
        exact Great.wpList_runTo hg o.dst rfl v w1 hr (wpList_runOps l _ _ a' w' h k)
      · cases h

/-- The same, of the frame no more than one slot's value and that nothing is deferred. -/
theorem wpList_runSlot {P : Program} {ops : Array Oper} {Q : Exit → Act → World → Prop} (l : List Oper) (a : Act) (w : World) (s : Tmp) (v : Value) (w' : World)
    (h : (runOps P l a w).map (fun x => (x.1.tmps.getD s undef, x.1.defers, x.2)) = some (v, [], w'))
    (k : ∀ a' : Act, a'.tmps.getD s undef = v → a'.defers = [] → wpList P ops Q [] a' w') : wpList P ops Q l a w := by
  obtain ⟨⟨a', w1⟩, h1, h2⟩ := Option.map_eq_some_iff.1 h
  simp only [Prod.mk.injEq] at h2
  obtain ⟨e1, e2, rfl⟩ := h2
  exact wpList_runOps l a w a' w1 h1 (k a' e1 e2)

/-- A function that is two such rows (its result's nought, and one statement) and hands back one slot. -/
theorem calls_runSlot {P : Program} {f : FuncId} {fn : Func} {id1 id2 : Nat} {ops1 ops2 : Array Oper} {s : Tmp} {args : Array Value} {w : World} {R : Ending → World → Prop} (hf : P.funcs[f]? = some fn)
    (hb : fn.body = some ((Code.region id1 ops1 false).seq ((Code.region id2 ops2 false).seq .ret))) (hr : fn.results = #[.tmp s]) (v : Value) (w' : World)
    (h : ((runOps P ops1.toList { tmps := args ++ Array.replicate (fn.ntmps - args.size) undef, defers := [] } w).bind fun x => runOps P ops2.toList x.1 x.2).map (fun x => (x.1.tmps.getD s undef, x.1.defers, x.2)) = some (v, [], w'))
    (k : R (.returned v) w') : Calls P f args w R := by
  obtain ⟨⟨a2, w2⟩, h0, h2⟩ := Option.map_eq_some_iff.1 h
  obtain ⟨⟨a1, w1⟩, h1, h3⟩ := Option.bind_eq_some_iff.1 h0
  simp only [Prod.mk.injEq] at h2
  obtain ⟨e1, e2, rfl⟩ := h2
  refine calls_of_wp hf hb (wp_seq (wp_region_list ?_))
  refine wpList_runOps ops1.toList _ w a1 w1 h1 (wpList_nil ?_)
  refine wp_seq (wp_region_list ?_)
  refine wpList_runOps ops2.toList a1 w1 a2 w2 h3 (wpList_nil ?_)
  refine wp_ret (bodyPost_ret (results_tmp hr _ _ _) e2 ?_)
  rw [e1]
  exact k
end Go.Proofs.YtamnhnleipnhdaaDoor

/-
  linesideref02: the document's answer for vars: its table, and a variable's row.
-/
namespace Go.Proofs.YtamnhnleipnhdaaDoor

open Go.RowKit

def rowOf (r : VRow) : List Value := [.string r.name, .int .i64 ((r.width : Nat) : Int), .int .i64 r.most, .int .i64 r.special]
def rowCells : Array Value := (vrows.flatMap rowOf).toArray

set_option maxHeartbeats 4000000 in
set_option maxRecDepth 100000 in
theorem table_any (w : World) :
    Calls Tryd.prog 65 #[] w fun e w' => ∃ g, e = .returned (.slice (some ⟨g, 0, none⟩) 96 96) ∧ w.heap.size ≤ g ∧ Has w' g 105 rowCells ∧ Below w.heap.size w w' := by
  refine calls_runSlot Tryd.func65 rfl rfl (.slice (some ⟨w.heap.size, 0, none⟩) 96 96) (w.alloc (.cells rowCells 105)) (by kernel_rfl) ?_
  exact ⟨_, rfl, Nat.le_refl _, Has.made _ _ _, (Below.refl _ _).alloc (Nat.le_refl _) _⟩
end Go.Proofs.YtamnhnleipnhdaaDoor

/-
  linesideref02.Get: a variable's row, or none.
-/
namespace Go.Proofs.YtamnhnleipnhdaaDoor

open Go.RowKit

theorem flat_at {l : List VRow} : ∀ (i : Nat) (r : VRow), l[i]? = some r → ∀ (j : Nat) (u : Value), (rowOf r)[j]? = some u → (l.flatMap rowOf)[i * 4 + j]? = some u := by
  induction l with
  | nil => intro i r h; simp at h
  | cons x l ih =>
    intro i r h j u hj
    have hx : (rowOf x).length = 4 := rfl
    have hj4 : j < 4 := by
      have := (List.getElem?_eq_some_iff.1 hj).1
      exact this
    rw [List.flatMap_cons]
    cases i with
    | zero =>
      simp only [List.getElem?_cons_zero, Option.some.injEq] at h
      subst h
      rw [List.getElem?_append_left (by omega), Nat.zero_mul, Nat.zero_add]
      exact hj
    | succ i =>
      rw [List.getElem?_append_right (by omega), hx, show (i + 1) * 4 + j - 4 = i * 4 + j by omega]
      exact ih i r (by simpa using h) j u hj
theorem rowCells_at (i : Nat) (hi : i < 96) (j : Nat) (u : Value) (hj : (rowOf (vrows.getD i vnone))[j]? = some u) : rowCells[i * 4 + j]? = some u := by
  have hl := vrows_length
  simp only [rowCells, List.getElem?_toArray]
  refine flat_at i _ ?_ j u hj
  rw [List.getElem?_eq_getElem (by omega)]
  simp [List.getD_eq_getElem?_getD, List.getElem?_eq_getElem (show i < vrows.length by omega)]

theorem results_row_tmp {P : Program} {fn : Func} {p u : Tmp} {ty : TypeId} (h : fn.results = #[.cell p ty, .tmp u]) (tmps : Array Value) (w : World) (g : Nat) (t : TypeId) (cs : Array Value) (d : TypeDesc)
    (hp : tmps.getD p undef = .pointer (some ⟨g, 0, none⟩)) (hg : w.heap[g]? = some (.cells cs t (0, 0)))
    (hu : P.underlying ty = some d) (hd : (match d with | .struct _ | .array _ _ => true | _ => false) = true) (hi : (P.info? ty).map (·.size) = some cs.size) :
    (results fn tmps).run P w = .ok (.tuple #[.agg cs, tmps.getD u undef]) w := by
  rw [results_cell_tmp h, hp]
  simp [asAddr, run_loadVar_row w g t ty cs (0, 0) d hg hu hd hi]

set_option maxHeartbeats 1000000 in
theorem vget_any (v : Int) (w : World) :
    Calls Tryd.prog 66 #[.int .i64 v] w fun e w' => e = .returned (.tuple #[.agg (rowOf (vrow v)).toArray, .bool (decide (0 ≤ v ∧ v < 96))]) ∧ Below w.heap.size w w' := by
  have ht := fun w => table_any w
  have HT := Lib.hid ht; clear ht
  by_cases h : 0 ≤ v ∧ v < 96
  · have hr := rowCells_at v.toNat (by omega)
    rw [decide_eq_true h, vrow_in h]
    generalize vrows.getD v.toNat vnone = R at *
    generalize rowCells = C at *
    obtain ⟨h0, h1⟩ := h
    have HR := Lib.hid hr; clear hr
    go_enter Tryd.func66, Tryd.ntmps66
    go_wp2_with fail
    refine (HT.out _).mono ?_
    rintro e w' ⟨g, rfl, hg, hh, hb⟩
    have hz : w'.heap[w.heap.size]? = some (.cells #[.string ByteArray.empty, .int .i64 0, .int .i64 0, .int .i64 0] 105 (0, 0)) := (Has.made w 105 _).under hb (by simp)
    have HZ := Lib.hid hz
    have HB := Lib.hid (((Below.refl w.heap.size w).alloc (Nat.le_refl _) _).trans (hb.mono (by simp)))
    have hne : w.heap.size ≠ g := by simp at hg; omega
    have c0 : w'.cell? ⟨g, v.toNat * 4, none⟩ = some (.string R.name) := by rw [hh.cell]; exact HR.out 0 _ rfl
    have c1 : w'.cell? ⟨g, v.toNat * 4 + 1, none⟩ = some (.int .i64 ((R.width : Nat) : Int)) := by rw [hh.cell]; exact HR.out 1 _ rfl
    have c2 : w'.cell? ⟨g, v.toNat * 4 + 2, none⟩ = some (.int .i64 R.most) := by rw [hh.cell]; exact HR.out 2 _ rfl
    have c3 : w'.cell? ⟨g, v.toNat * 4 + 3, none⟩ = some (.int .i64 R.special) := by rw [hh.cell]; exact HR.out 3 _ rfl
    clear hz hb hh hg
    go_wp2_with (with_reducible refine wpList_store_rowTo (o := ⟨none, _, _, _, _, _⟩) rfl 105 _ _ rfl rfl w.heap.size #[.string R.name, .int .i64 ((R.width : Nat) : Int), .int .i64 R.most, .int .i64 R.special] rfl rfl 105 _ HZ.out (by kernel_rfl) (by kernel_rfl) (by kernel_rfl) ?_)
    refine bodyPost_ret (results_row_tmp rfl _ _ w.heap.size 105 #[.string R.name, .int .i64 ((R.width : Nat) : Int), .int .i64 R.most, .int .i64 R.special] _ rfl (setRow_heap _ _ _ _ _ _ HZ.out) Tryd.underlying105 rfl (by kernel_rfl)) rfl ?_
    exact ⟨rfl, below_row HB.out (Nat.le_refl _) _⟩
  · rw [decide_eq_false h, vrow_out h]
    have H := Lib.hid h; clear h
    go_enter Tryd.func66, Tryd.ntmps66
    go_wp2_with fail
    refine (HT.out _).mono ?_
    rintro e w' ⟨g, rfl, hg, hh, hb⟩
    have hz : w'.heap[w.heap.size]? = some (.cells #[.string ByteArray.empty, .int .i64 0, .int .i64 0, .int .i64 0] 105 (0, 0)) := (Has.made w 105 _).under hb (by simp)
    have HZ := Lib.hid hz
    have HB := Lib.hid (((Below.refl w.heap.size w).alloc (Nat.le_refl _) _).trans (hb.mono (by simp)))
    clear hz hb hh hg
    obtain h1 | h1 : v < 0 ∨ (¬ v < 0 ∧ 96 ≤ v) := by have := H.out; omega
    · go_wp2_with (with_reducible refine wpList_store_rowTo (o := ⟨none, _, _, _, _, _⟩) rfl 105 _ _ rfl rfl w.heap.size #[.string ByteArray.empty, .int .i64 0, .int .i64 0, .int .i64 0] rfl rfl 105 _ HZ.out (by kernel_rfl) (by kernel_rfl) (by kernel_rfl) ?_)
      refine bodyPost_ret (results_row_tmp rfl _ _ w.heap.size 105 #[.string ByteArray.empty, .int .i64 0, .int .i64 0, .int .i64 0] _ rfl (setRow_heap _ _ _ _ _ _ HZ.out) Tryd.underlying105 rfl (by kernel_rfl)) rfl ?_
      exact ⟨rfl, below_row HB.out (Nat.le_refl _) _⟩
    · obtain ⟨h1, h2⟩ := h1
      go_wp2_with (with_reducible refine wpList_store_rowTo (o := ⟨none, _, _, _, _, _⟩) rfl 105 _ _ rfl rfl w.heap.size #[.string ByteArray.empty, .int .i64 0, .int .i64 0, .int .i64 0] rfl rfl 105 _ HZ.out (by kernel_rfl) (by kernel_rfl) (by kernel_rfl) ?_)
      refine bodyPost_ret (results_row_tmp rfl _ _ w.heap.size 105 #[.string ByteArray.empty, .int .i64 0, .int .i64 0, .int .i64 0] _ rfl (setRow_heap _ _ _ _ _ _ HZ.out) Tryd.underlying105 rfl (by kernel_rfl)) rfl ?_
      exact ⟨rfl, below_row HB.out (Nat.le_refl _) _⟩
end Go.Proofs.YtamnhnleipnhdaaDoor

/-
  linesideref02's functions: a variable's width, values and name, as the table has them.
-/
namespace Go.Proofs.YtamnhnleipnhdaaDoor

open Go.RowKit

theorem get_row (v : Int) (w : World) (R : VRow) (hR : vrow v = R) :
    Calls Tryd.prog 66 #[.int .i64 v] w fun e w' => e = .returned (.tuple #[.agg #[.string R.name, .int .i64 ((R.width : Nat) : Int), .int .i64 R.most, .int .i64 R.special], .bool (decide (0 ≤ v ∧ v < 96))]) ∧ Below w.heap.size w w' := by
  subst hR
  exact vget_any v w

set_option maxHeartbeats 1000000 in
theorem ref_width (v : Int) (w : World) :
    Calls Tryd.prog 36 #[.int .i64 v] w fun e w' => e = .returned (.int .i64 ((widthOf v : Nat) : Int)) ∧ Below w.heap.size w w' := by
  have hg := fun w => get_row v w _ rfl
  rw [widthOf]
  generalize vrow v = R at *
  have HG := Lib.hid hg; clear hg
  go_enter Tryd.func36, Tryd.ntmps36
  go_wp2_with fail
  refine (HG.out _).mono ?_
  rintro e w' ⟨rfl, hb⟩
  have HB := Lib.hid (hb.alloc hb.size (.cells #[.string R.name, .int .i64 ((R.width : Nat) : Int), .int .i64 R.most, .int .i64 R.special] 105))
  clear hb
  go_wp2
  go_ret
  exact ⟨rfl, HB.out⟩

end Go.Proofs.YtamnhnleipnhdaaDoor

/-
  linesideref02.May: may a variable be a number, as the table has it.
-/
namespace Go.Proofs.YtamnhnleipnhdaaDoor

open Go.RowKit

theorem row_facts (v : Int) (h : 0 ≤ v ∧ v < 96) : (vrow v).most < 2 ^ (vrow v).width ∧ ((vrow v).special < 0 ∨ 0 < (vrow v).special) := by
  have := vall (fun i => decide ((vrows.getD i vnone).most < 2 ^ (vrows.getD i vnone).width ∧ ((vrows.getD i vnone).special < 0 ∨ 0 < (vrows.getD i vnone).special))) (by decide +kernel) v h.1 h.2
  rw [vrow_in h]
  exact of_decide_eq_true this

set_option maxHeartbeats 2000000 in
theorem ref_may (v n : Int) (w : World) :
    Calls Tryd.prog 35 #[.int .i64 v, .int .i64 n] w fun e w' => e = .returned (.bool (mayOf v n)) ∧ Below w.heap.size w w' := by
  have hg := fun w => get_row v w _ rfl
  by_cases h : 0 ≤ v ∧ v < 96
  · have hf := row_facts v h
    have hle := width_le v
    rw [decide_eq_true h] at hg
    rw [mayOf, decide_eq_true h, Bool.true_and, mostOf, specialOf, greatestOf, widthOf]
    rw [widthOf] at hle
    generalize vrow v = R at *
    have HG := Lib.hid hg; clear hg
    obtain ⟨hf1, hf2⟩ := hf
    obtain ⟨P, hP⟩ : ∃ P, P = 2 ^ R.width := ⟨_, rfl⟩
    have hP2 : P ≤ 2 ^ 32 := by rw [hP]; exact Nat.pow_le_pow_right (by omega) hle
    have hP1 : 1 ≤ P := by rw [hP]; exact Nat.one_le_two_pow
    have e : ((2 : Int) ^ R.width) = (P : Int) := by rw [hP]; simp
    have HP := Lib.hid (fun w => power_any R.width P (by omega) hP w)
    rw [e] at hf1 ⊢
    clear e hP hle h
    generalize hM : (if R.most < 0 then (P : Int) - 1 else R.most) = M
    generalize hS : (if R.special < 0 then 0 else R.special) = S
    by_cases hn : 0 ≤ n
    · rw [decide_eq_true hn, Bool.true_and]
      by_cases hnP : (P : Int) ≤ n
      · have e1 : (decide (n ≤ M) || (decide (S ≠ 0) && decide (S ≤ n) && decide (n ≤ (P : Int) - 1))) = false := by
          have : ¬ n ≤ M := by split at hM <;> omega
          have : ¬ n ≤ (P : Int) - 1 := by omega
          simp [*]
        rw [e1]
        clear e1 hM hS hf1 hf2
        go_enter Tryd.func35, Tryd.ntmps35
        go_wp2_with fail
        refine (HG.out _).mono ?_
        rintro e w' ⟨rfl, hb⟩
        have HB := Lib.hid (hb.alloc hb.size (.cells #[.string R.name, .int .i64 ((R.width : Nat) : Int), .int .i64 R.most, .int .i64 R.special] 105))
        clear hb
        go_wp2_with fail
        refine (HP.out _).mono ?_
        rintro e w2 ⟨rfl, rfl⟩
        go_wp2
        go_ret
        exact ⟨rfl, HB.out⟩
      · by_cases hm : R.most < 0
        · have e1 : decide (n ≤ M) = true := by rw [if_pos hm] at hM; exact decide_eq_true (by omega)
          rw [e1, Bool.true_or]
          clear e1 hM hS hf1 hf2
          go_enter Tryd.func35, Tryd.ntmps35
          go_wp2_with fail
          refine (HG.out _).mono ?_
          rintro e w' ⟨rfl, hb⟩
          have HB := Lib.hid (hb.alloc hb.size (.cells #[.string R.name, .int .i64 ((R.width : Nat) : Int), .int .i64 R.most, .int .i64 R.special] 105))
          clear hb
          go_wp2_with fail
          refine (HP.out _).mono ?_
          rintro e w2 ⟨rfl, rfl⟩
          go_wp2
          go_ret
          exact ⟨rfl, HB.out⟩
        · rw [if_neg hm] at hM
          subst hM
          by_cases hnm : n ≤ R.most
          · rw [decide_eq_true hnm, Bool.true_or]
            clear hS hf1 hf2
            go_enter Tryd.func35, Tryd.ntmps35
            go_wp2_with fail
            refine (HG.out _).mono ?_
            rintro e w' ⟨rfl, hb⟩
            have HB := Lib.hid (hb.alloc hb.size (.cells #[.string R.name, .int .i64 ((R.width : Nat) : Int), .int .i64 R.most, .int .i64 R.special] 105))
            clear hb
            go_wp2_with fail
            refine (HP.out _).mono ?_
            rintro e w2 ⟨rfl, rfl⟩
            go_wp2
            go_ret
            exact ⟨rfl, HB.out⟩
          · rw [decide_eq_false hnm, Bool.false_or]
            by_cases hs : R.special < 0
            · rw [if_pos hs] at hS
              subst hS
              have hs2 : ¬ 0 ≤ R.special := by omega
              have e1 : (decide ((0 : Int) ≠ 0) && decide (0 ≤ n) && decide (n ≤ (P : Int) - 1)) = false := by simp
              rw [e1]
              clear e1 hf1 hf2
              go_enter Tryd.func35, Tryd.ntmps35
              go_wp2_with fail
              refine (HG.out _).mono ?_
              rintro e w' ⟨rfl, hb⟩
              have HB := Lib.hid (hb.alloc hb.size (.cells #[.string R.name, .int .i64 ((R.width : Nat) : Int), .int .i64 R.most, .int .i64 R.special] 105))
              clear hb
              go_wp2_with fail
              refine (HP.out _).mono ?_
              rintro e w2 ⟨rfl, rfl⟩
              go_wp2
              go_ret
              exact ⟨by show Ending.returned (.bool (decide (R.most < 0) || decide (n ≤ R.most))) = _; rw [decide_eq_false (by omega), decide_eq_false (by omega)]; rfl, HB.out⟩
            · rw [if_neg hs] at hS
              subst hS
              by_cases hsn : R.special ≤ n
              · have e1 : (decide (R.special ≠ 0) && decide (R.special ≤ n) && decide (n ≤ (P : Int) - 1)) = true := by
                  have : R.special ≠ 0 := by omega
                  have : n ≤ (P : Int) - 1 := by omega
                  simp [*]
                rw [e1]
                clear e1 hf1 hf2
                go_enter Tryd.func35, Tryd.ntmps35
                go_wp2_with fail
                refine (HG.out _).mono ?_
                rintro e w' ⟨rfl, hb⟩
                have HB := Lib.hid (hb.alloc hb.size (.cells #[.string R.name, .int .i64 ((R.width : Nat) : Int), .int .i64 R.most, .int .i64 R.special] 105))
                clear hb
                go_wp2_with fail
                refine (HP.out _).mono ?_
                rintro e w2 ⟨rfl, rfl⟩
                go_wp2
                go_ret
                exact ⟨rfl, HB.out⟩
              · have e1 : (decide (R.special ≠ 0) && decide (R.special ≤ n) && decide (n ≤ (P : Int) - 1)) = false := by simp [hsn]
                rw [e1]
                clear e1 hf1 hf2
                go_enter Tryd.func35, Tryd.ntmps35
                go_wp2_with fail
                refine (HG.out _).mono ?_
                rintro e w' ⟨rfl, hb⟩
                have HB := Lib.hid (hb.alloc hb.size (.cells #[.string R.name, .int .i64 ((R.width : Nat) : Int), .int .i64 R.most, .int .i64 R.special] 105))
                clear hb
                go_wp2_with fail
                refine (HP.out _).mono ?_
                rintro e w2 ⟨rfl, rfl⟩
                go_wp2
                go_ret
                exact ⟨by show Ending.returned (.bool (decide (R.most < 0) || decide (n ≤ R.most) || decide (R.special ≤ n))) = _; rw [decide_eq_false (by omega), decide_eq_false (by omega), decide_eq_false (by omega)]; rfl, HB.out⟩
    · have e1 : decide (0 ≤ n) = false := decide_eq_false hn
      rw [e1, Bool.false_and]
      clear e1 hM hS hf1 hf2
      go_enter Tryd.func35, Tryd.ntmps35
      go_wp2_with fail
      refine (HG.out _).mono ?_
      rintro e w' ⟨rfl, hb⟩
      have HB := Lib.hid (hb.alloc hb.size (.cells #[.string R.name, .int .i64 ((R.width : Nat) : Int), .int .i64 R.most, .int .i64 R.special] 105))
      clear hb
      go_wp2
      go_ret
      exact ⟨rfl, HB.out⟩
  · have e1 : mayOf v n = false := by simp [mayOf, h]
    rw [e1]
    rw [decide_eq_false h] at hg
    clear e1 h
    generalize vrow v = R at *
    have HG := Lib.hid hg; clear hg
    go_enter Tryd.func35, Tryd.ntmps35
    go_wp2_with fail
    refine (HG.out _).mono ?_
    rintro e w' ⟨rfl, hb⟩
    have HB := Lib.hid (hb.alloc hb.size (.cells #[.string R.name, .int .i64 ((R.width : Nat) : Int), .int .i64 R.most, .int .i64 R.special] 105))
    clear hb
    go_wp2
    go_ret
    exact ⟨rfl, HB.out⟩
end Go.Proofs.YtamnhnleipnhdaaDoor

/-
  linesideref02.Find: the first variable of that name.
-/
namespace Go.Proofs.YtamnhnleipnhdaaDoor

open Go.RowKit

set_option maxHeartbeats 1000000 in
theorem ref_find (s : ByteArray) (w : World) :
    Calls Tryd.prog 34 #[.string s] w fun e w' => e = .returned (.int .i64 (findOf s)) ∧ Below w.heap.size w w' := by
  have hc := fun i h => rowCells_at i h 0 _ rfl
  have ht := table_any w
  generalize rowCells = C at *
  have HC := Lib.hid hc; have HT := Lib.hid ht; clear hc ht
  go_enter Tryd.func34, Tryd.ntmps34
  go_wp2_with fail
  refine HT.out.mono ?_
  rintro e w' ⟨g, rfl, hg, hh, hb⟩
  have HB := Lib.hid hb; have HH := Lib.hid hh; clear hb hh hg
  go_wp2_with fail
  go_loop [4] (fun i => ∃ k : Nat, k ≤ 96 ∧ i = .int .i64 k ∧ findOf s = findFrom s (vrows.drop k) k) (fun i => 96 - (intOf i).toNat)
  case atStart => exact ⟨0, by omega, rfl, rfl⟩
  case round =>
    obtain ⟨k, hk, rfl, hf⟩ := hrel
    by_cases hlt : k < 96
    · have hd : vrows.drop k = vrows.getD k vnone :: vrows.drop (k + 1) := by
        have hl := vrows_length
        rw [List.drop_eq_getElem_cons (by omega)]
        simp [List.getD_eq_getElem?_getD, List.getElem?_eq_getElem (show k < vrows.length by omega)]
      have hi : w'.cell? ⟨g, k * 4, none⟩ = some (.string (vrows.getD k vnone).name) := by rw [HH.out.cell]; exact HC.out k hlt
      rw [hd, findFrom] at hf
      clear hd
      generalize (vrows.getD k vnone).name = S at *
      have HF := Lib.hid hf; clear hf
      by_cases hs : S = s
      · have hs1 : (S.toList == s.toList) = true := by rw [bytes_beq]; simp [hs]
        go_wp2
        go_ret
        have := HF.out
        rw [if_pos hs] at this
        rw [this]
        exact ⟨rfl, HB.out⟩
      · have hs1 : (S.toList == s.toList) = false := by rw [bytes_beq]; simp [hs]
        go_wp2
        go_round
        case rel => exact ⟨k + 1, by omega, by go_num, by have := HF.out; rw [if_neg hs] at this; exact this⟩
        case measure => simp [intOf]; omega
    · have hf2 : findOf s = -1 := by rw [hf, List.drop_eq_nil_of_le (by rw [vrows_length]; omega), findFrom]
      have HF := Lib.hid hf2; clear hf hf2
      go_wp2
      go_ret
      rw [HF.out]
      exact ⟨rfl, HB.out⟩
end Go.Proofs.YtamnhnleipnhdaaDoor

/-
  The list of widths as a row lists it: what it gives a walk (Wd), and a world for the witness.
-/
namespace Go.Proofs.YtamnhnleipnhdaaDoor

open Go.ChangeShapes Go.WideShapes Go.ChangeAt Go.RowKit

theorem gWidths : Tryd.prog.globalNamed "lineside/vars.widths" = some 0 := by kernel_rfl
theorem gWidthsType : (Tryd.prog.globals[0]?).map (·.type) = some 121 := by kernel_rfl
theorem cellsWidths : Tryd.prog.cellsOf 121 = 96 := by kernel_rfl
theorem cellsInt : Tryd.prog.cellsOf 3 = 1 := by kernel_rfl

def widthInts : List Int := vrows.map fun r => ((r.width : Nat) : Int)
theorem laid_widths {H : Type} : (Rows.laid_lineside_vars_widths : DataW H) = Lib.tabData .i64 widthInts := by kernel_rfl

theorem wd_of_laid {W : World} (h : laidMetH Tryd.prog [("lineside/vars.widths", Rows.laid_lineside_vars_widths)] W) : Wd W := by
  rw [laid_widths] at h
  have ht : Lib.TabIs Tryd.prog W "lineside/vars.widths" .i64 widthInts :=
    Lib.tabIs_of_head (rest := []) gWidths gWidthsType Tryd.underlying121 Tryd.underlying3 cellsInt cellsWidths h
  intro i hi
  have hl := vrows_length
  have := ht.cell gWidths i (by simp only [widthInts, List.length_map]; omega)
  rw [this]
  simp [widthInts, List.getD_eq_getElem?_getD, List.getElem?_eq_getElem (show i < vrows.length by omega)]

/-- The settled world, its list of widths filled. -/
noncomputable def widthsWorld (os : Os) : World :=
  { World.holding Tryd.prog os ⟨#[], #[], []⟩ with heap := (World.holding Tryd.prog os ⟨#[], #[], []⟩).heap.modify 0 fun
      | .cells _ t frozen => .cells (widthInts.map fun z => Value.int .i64 z).toArray t frozen
      | o => o }
end Go.Proofs.YtamnhnleipnhdaaDoor
