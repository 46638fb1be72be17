/-
  message.kindOf.
-/
import Derived.Test.YtamnhnleipnhdaaDoorMgH

import Derived.Test.YtamnhnleipnhdaaDoorMgJ

import Derived.Deep.LoopGhost

import Derived.StillTailTactics

namespace Go.Proofs.YtamnhnleipnhdaaDoor

open Go.RowKit

def kdV (O : Option Addr) (no co : Nat) (F : Option Addr) (nf cf : Nat) (P : Option Addr) (np cp : Nat) : Value := .agg #[.slice O no co, .slice F nf cf, .slice P np cp]
def firstL (k : Nat) : List Int := if k = 0 then [] else if k = 1 then [15] else [0, 1]
def ownI (R : MRow) : List Int := R.ownV.map fun (v : Nat) => (v : Int)
/-- What a kind's slices hold. -/
structure KdAt (w : World) (O : Option Addr) (no co : Nat) (F : Option Addr) (nf cf : Nat) (P : Option Addr) (np cp : Nat) (R : MRow) : Prop where
  own : Sl w 1 O no co (intsI (ownI R))
  first : Sl w 1 F nf cf (intsI (firstL R.kd))
  may : Sl w 1 P np cp (intsI R.mayL)
theorem KdAt.under {w w' : World} {O : Option Addr} {no co : Nat} {F : Option Addr} {nf cf : Nat} {P : Option Addr} {np cp : Nat} {R : MRow} (h : KdAt w O no co F nf cf P np cp R) (hb : Below w.heap.size w w') : KdAt w' O no co F nf cf P np cp R :=
  ⟨h.own.under hb, h.first.under hb, h.may.under hb⟩
theorem sl_has {W : World} {g : Nat} {t : TypeId} {n : Nat} {vs : List Value} (h : Has W g t vs.toArray) (hn : vs.length = n) : Sl W 1 (some ⟨g, 0, none⟩) n n vs := by
  refine ⟨by omega, (fun e => by cases e), fun ad ha j u hu => ?_⟩
  injection ha with ha
  subst ha
  rw [WideShapes.add_plain, h.cell, Nat.zero_add]
  simpa using hu

theorem has_made_at {W0 : World} {g : Nat} {t : TypeId} {cs : Array Value} (hg : W0.heap.size = g) : Has (W0.alloc (.cells cs t)) g t cs := by
  subst hg
  exact Has.made _ _ _

set_option maxHeartbeats 1000000 in
theorem authority_any (P : Option Addr) (np cp : Nat) (O : Option Addr) (no co : Nat) (w : World) :
    Calls Tryd.prog 52 #[.slice P np cp, .slice O no co] w fun e w' => e = .returned (.agg #[.slice O no co, .slice (some ⟨w.heap.size + 1, 0, none⟩) 1 1, .slice P np cp]) ∧
      w' = (w.alloc (.cells #[.slice O no co, .slice (some ⟨w.heap.size + 1, 0, none⟩) 1 1, .slice P np cp] 42)).alloc (.cells #[.int .i64 15] 3) := by
  go_enter Tryd.func52, Tryd.ntmps52
  go_wp2
  refine bodyPost_ret (results_cell_row rfl _ _ w.heap.size 42 _ _ _ rfl (Has.beside (Has.made w 42 _) _) Tryd.underlying42 rfl (by kernel_rfl)) rfl ?_
  exact ⟨rfl, rfl⟩
set_option maxHeartbeats 1000000 in
theorem report_any (P : Option Addr) (np cp : Nat) (O : Option Addr) (no co : Nat) (w : World) :
    Calls Tryd.prog 53 #[.slice P np cp, .slice O no co] w fun e w' => e = .returned (.agg #[.slice O no co, .slice (some ⟨w.heap.size + 1, 0, none⟩) 2 2, .slice P np cp]) ∧
      w' = (w.alloc (.cells #[.slice O no co, .slice (some ⟨w.heap.size + 1, 0, none⟩) 2 2, .slice P np cp] 42)).alloc (.cells #[.int .i64 0, .int .i64 1] 3) := by
  go_enter Tryd.func53, Tryd.ntmps53
  go_wp2
  refine bodyPost_ret (results_cell_row rfl _ _ w.heap.size 42 _ _ _ rfl (Has.beside (Has.made w 42 _) _) Tryd.underlying42 rfl (by kernel_rfl)) rfl ?_
  exact ⟨rfl, rfl⟩

/-- What kindOf answers. -/
def KdPost (id : Int) (w : World) (e : Ending) (w' : World) : Prop :=
  ∃ O no co F nf cf P np cp, e = .returned (.tuple #[kdV O no co F nf cf P np cp, .bool (mknown id)]) ∧ KdAt w' O no co F nf cf P np cp (mrow id) ∧ Below w.heap.size w w'
def KdNew (w : World) (O F P : Option Addr) : Prop := ∀ a, (O = some a ∨ F = some a ∨ P = some a) → w.heap.size ≤ a.block
def KdPost2 (id : Int) (w : World) (e : Ending) (w' : World) : Prop :=
  ∃ O no co F nf cf P np cp, e = .returned (.tuple #[kdV O no co F nf cf P np cp, .bool (mknown id)]) ∧ KdAt w' O no co F nf cf P np cp (mrow id) ∧ Below w.heap.size w w' ∧ KdNew w O F P

set_option maxRecDepth 100000 in
set_option maxHeartbeats 4000000 in
theorem kd_2 (w : World) : Calls Tryd.prog 22 #[.int .i64 2] w (KdPost2 2 w) := by
  have hk : mknown 2 = true := by kernel_rfl
  have e1 : intsI (ownI (mrow 2)) = [.int .i64 8, .int .i64 95] := by kernel_rfl
  have e2 : intsI (firstL (mrow 2).kd) = [] := by kernel_rfl
  have e3 : intsI (mrow 2).mayL = [] := by kernel_rfl
  unfold KdPost2
  have HK := Lib.hid hk; have H1 := Lib.hid e1; have H2 := Lib.hid e2; have H3 := Lib.hid e3
  clear hk e1 e2 e3
  go_enter Tryd.func22, Tryd.ntmps22
  go_wp2_with (first
    | (go_at_call 52; refine (authority_any _ _ _ _ _ _ _).mono ?_; rintro e w1 ⟨rfl, rfl⟩)
    | (go_at_call 53; refine (report_any _ _ _ _ _ _ _).mono ?_; rintro e w1 ⟨rfl, rfl⟩))
  refine bodyPost_ret (results_row_tmp rfl _ _ w.heap.size 42 _ _ rfl (Has.beside (Has.made w 42 _) _) Tryd.underlying42 rfl (by kernel_rfl)) rfl ?_
  refine ⟨_, _, _, _, _, _, _, _, _, by rw [HK.out]; rfl, ⟨?_, ?_, ?_⟩, ?_, ?_⟩
  · rw [H1.out]
    first | exact sl_nil _ _ | (refine sl_has (t := 3) ?_ rfl; repeat (first | exact has_made_at (by simp) | refine Has.beside ?_ _))
  · rw [H2.out]
    first | exact sl_nil _ _ | (refine sl_has (t := 3) ?_ rfl; repeat (first | exact has_made_at (by simp) | refine Has.beside ?_ _))
  · rw [H3.out]
    first | exact sl_nil _ _ | (refine sl_has (t := 3) ?_ rfl; repeat (first | exact has_made_at (by simp) | refine Has.beside ?_ _))
  · repeat (first | exact Below.refl _ _ | refine Below.alloc ?_ (by simp; try omega) _)
  · intro a h
    rcases h with h | h | h
    all_goals first | (cases h; done) | (cases h; dsimp only; omega)

set_option maxRecDepth 100000 in
set_option maxHeartbeats 4000000 in
theorem kd_3 (w : World) : Calls Tryd.prog 22 #[.int .i64 3] w (KdPost2 3 w) := by
  have hk : mknown 3 = true := by kernel_rfl
  have e1 : intsI (ownI (mrow 3)) = [] := by kernel_rfl
  have e2 : intsI (firstL (mrow 3).kd) = [.int .i64 15] := by kernel_rfl
  have e3 : intsI (mrow 3).mayL = [.int .i64 3, .int .i64 5, .int .i64 21, .int .i64 27, .int .i64 57, .int .i64 58, .int .i64 80] := by kernel_rfl
  unfold KdPost2
  have HK := Lib.hid hk; have H1 := Lib.hid e1; have H2 := Lib.hid e2; have H3 := Lib.hid e3
  clear hk e1 e2 e3
  go_enter Tryd.func22, Tryd.ntmps22
  go_wp2_with (first
    | (go_at_call 52; refine (authority_any _ _ _ _ _ _ _).mono ?_; rintro e w1 ⟨rfl, rfl⟩)
    | (go_at_call 53; refine (report_any _ _ _ _ _ _ _).mono ?_; rintro e w1 ⟨rfl, rfl⟩))
  refine bodyPost_ret (results_row_tmp rfl _ _ w.heap.size 42 _ _ rfl (Has.beside (Has.beside (Has.beside (Has.made w 42 _) _) _) _) Tryd.underlying42 rfl (by kernel_rfl)) rfl ?_
  refine ⟨_, _, _, _, _, _, _, _, _, by rw [HK.out]; rfl, ⟨?_, ?_, ?_⟩, ?_, ?_⟩
  · rw [H1.out]
    first | exact sl_nil _ _ | (refine sl_has (t := 3) ?_ rfl; repeat (first | exact has_made_at (by simp) | refine Has.beside ?_ _))
  · rw [H2.out]
    first | exact sl_nil _ _ | (refine sl_has (t := 3) ?_ rfl; repeat (first | exact has_made_at (by simp) | refine Has.beside ?_ _))
  · rw [H3.out]
    first | exact sl_nil _ _ | (refine sl_has (t := 3) ?_ rfl; repeat (first | exact has_made_at (by simp) | refine Has.beside ?_ _))
  · repeat (first | exact Below.refl _ _ | refine Below.alloc ?_ (by simp; try omega) _)
  · intro a h
    rcases h with h | h | h
    all_goals first | (cases h; done) | (cases h; dsimp only; omega)

set_option maxRecDepth 100000 in
set_option maxHeartbeats 4000000 in
theorem kd_8 (w : World) : Calls Tryd.prog 22 #[.int .i64 8] w (KdPost2 8 w) := by
  have hk : mknown 8 = true := by kernel_rfl
  have e1 : intsI (ownI (mrow 8)) = [.int .i64 2] := by kernel_rfl
  have e2 : intsI (firstL (mrow 8).kd) = [] := by kernel_rfl
  have e3 : intsI (mrow 8).mayL = [] := by kernel_rfl
  unfold KdPost2
  have HK := Lib.hid hk; have H1 := Lib.hid e1; have H2 := Lib.hid e2; have H3 := Lib.hid e3
  clear hk e1 e2 e3
  go_enter Tryd.func22, Tryd.ntmps22
  go_wp2_with (first
    | (go_at_call 52; refine (authority_any _ _ _ _ _ _ _).mono ?_; rintro e w1 ⟨rfl, rfl⟩)
    | (go_at_call 53; refine (report_any _ _ _ _ _ _ _).mono ?_; rintro e w1 ⟨rfl, rfl⟩))
  refine bodyPost_ret (results_row_tmp rfl _ _ w.heap.size 42 _ _ rfl (Has.beside (Has.made w 42 _) _) Tryd.underlying42 rfl (by kernel_rfl)) rfl ?_
  refine ⟨_, _, _, _, _, _, _, _, _, by rw [HK.out]; rfl, ⟨?_, ?_, ?_⟩, ?_, ?_⟩
  · rw [H1.out]
    first | exact sl_nil _ _ | (refine sl_has (t := 3) ?_ rfl; repeat (first | exact has_made_at (by simp) | refine Has.beside ?_ _))
  · rw [H2.out]
    first | exact sl_nil _ _ | (refine sl_has (t := 3) ?_ rfl; repeat (first | exact has_made_at (by simp) | refine Has.beside ?_ _))
  · rw [H3.out]
    first | exact sl_nil _ _ | (refine sl_has (t := 3) ?_ rfl; repeat (first | exact has_made_at (by simp) | refine Has.beside ?_ _))
  · repeat (first | exact Below.refl _ _ | refine Below.alloc ?_ (by simp; try omega) _)
  · intro a h
    rcases h with h | h | h
    all_goals first | (cases h; done) | (cases h; dsimp only; omega)

set_option maxRecDepth 100000 in
set_option maxHeartbeats 4000000 in
theorem kd_9 (w : World) : Calls Tryd.prog 22 #[.int .i64 9] w (KdPost2 9 w) := by
  have hk : mknown 9 = true := by kernel_rfl
  have e1 : intsI (ownI (mrow 9)) = [] := by kernel_rfl
  have e2 : intsI (firstL (mrow 9).kd) = [.int .i64 15] := by kernel_rfl
  have e3 : intsI (mrow 9).mayL = [.int .i64 5, .int .i64 80] := by kernel_rfl
  unfold KdPost2
  have HK := Lib.hid hk; have H1 := Lib.hid e1; have H2 := Lib.hid e2; have H3 := Lib.hid e3
  clear hk e1 e2 e3
  go_enter Tryd.func22, Tryd.ntmps22
  go_wp2_with (first
    | (go_at_call 52; refine (authority_any _ _ _ _ _ _ _).mono ?_; rintro e w1 ⟨rfl, rfl⟩)
    | (go_at_call 53; refine (report_any _ _ _ _ _ _ _).mono ?_; rintro e w1 ⟨rfl, rfl⟩))
  refine bodyPost_ret (results_row_tmp rfl _ _ w.heap.size 42 _ _ rfl (Has.beside (Has.beside (Has.beside (Has.made w 42 _) _) _) _) Tryd.underlying42 rfl (by kernel_rfl)) rfl ?_
  refine ⟨_, _, _, _, _, _, _, _, _, by rw [HK.out]; rfl, ⟨?_, ?_, ?_⟩, ?_, ?_⟩
  · rw [H1.out]
    first | exact sl_nil _ _ | (refine sl_has (t := 3) ?_ rfl; repeat (first | exact has_made_at (by simp) | refine Has.beside ?_ _))
  · rw [H2.out]
    first | exact sl_nil _ _ | (refine sl_has (t := 3) ?_ rfl; repeat (first | exact has_made_at (by simp) | refine Has.beside ?_ _))
  · rw [H3.out]
    first | exact sl_nil _ _ | (refine sl_has (t := 3) ?_ rfl; repeat (first | exact has_made_at (by simp) | refine Has.beside ?_ _))
  · repeat (first | exact Below.refl _ _ | refine Below.alloc ?_ (by simp; try omega) _)
  · intro a h
    rcases h with h | h | h
    all_goals first | (cases h; done) | (cases h; dsimp only; omega)

set_option maxRecDepth 100000 in
set_option maxHeartbeats 4000000 in
theorem kd_15 (w : World) : Calls Tryd.prog 22 #[.int .i64 15] w (KdPost2 15 w) := by
  have hk : mknown 15 = true := by kernel_rfl
  have e1 : intsI (ownI (mrow 15)) = [.int .i64 88, .int .i64 8, .int .i64 6, .int .i64 89, .int .i64 90] := by kernel_rfl
  have e2 : intsI (firstL (mrow 15).kd) = [] := by kernel_rfl
  have e3 : intsI (mrow 15).mayL = [] := by kernel_rfl
  unfold KdPost2
  have HK := Lib.hid hk; have H1 := Lib.hid e1; have H2 := Lib.hid e2; have H3 := Lib.hid e3
  clear hk e1 e2 e3
  go_enter Tryd.func22, Tryd.ntmps22
  go_wp2_with (first
    | (go_at_call 52; refine (authority_any _ _ _ _ _ _ _).mono ?_; rintro e w1 ⟨rfl, rfl⟩)
    | (go_at_call 53; refine (report_any _ _ _ _ _ _ _).mono ?_; rintro e w1 ⟨rfl, rfl⟩))
  refine bodyPost_ret (results_row_tmp rfl _ _ w.heap.size 42 _ _ rfl (Has.beside (Has.made w 42 _) _) Tryd.underlying42 rfl (by kernel_rfl)) rfl ?_
  refine ⟨_, _, _, _, _, _, _, _, _, by rw [HK.out]; rfl, ⟨?_, ?_, ?_⟩, ?_, ?_⟩
  · rw [H1.out]
    first | exact sl_nil _ _ | (refine sl_has (t := 3) ?_ rfl; repeat (first | exact has_made_at (by simp) | refine Has.beside ?_ _))
  · rw [H2.out]
    first | exact sl_nil _ _ | (refine sl_has (t := 3) ?_ rfl; repeat (first | exact has_made_at (by simp) | refine Has.beside ?_ _))
  · rw [H3.out]
    first | exact sl_nil _ _ | (refine sl_has (t := 3) ?_ rfl; repeat (first | exact has_made_at (by simp) | refine Has.beside ?_ _))
  · repeat (first | exact Below.refl _ _ | refine Below.alloc ?_ (by simp; try omega) _)
  · intro a h
    rcases h with h | h | h
    all_goals first | (cases h; done) | (cases h; dsimp only; omega)

set_option maxRecDepth 100000 in
set_option maxHeartbeats 4000000 in
theorem kd_16 (w : World) : Calls Tryd.prog 22 #[.int .i64 16] w (KdPost2 16 w) := by
  have hk : mknown 16 = true := by kernel_rfl
  have e1 : intsI (ownI (mrow 16)) = [.int .i64 88] := by kernel_rfl
  have e2 : intsI (firstL (mrow 16).kd) = [] := by kernel_rfl
  have e3 : intsI (mrow 16).mayL = [] := by kernel_rfl
  unfold KdPost2
  have HK := Lib.hid hk; have H1 := Lib.hid e1; have H2 := Lib.hid e2; have H3 := Lib.hid e3
  clear hk e1 e2 e3
  go_enter Tryd.func22, Tryd.ntmps22
  go_wp2_with (first
    | (go_at_call 52; refine (authority_any _ _ _ _ _ _ _).mono ?_; rintro e w1 ⟨rfl, rfl⟩)
    | (go_at_call 53; refine (report_any _ _ _ _ _ _ _).mono ?_; rintro e w1 ⟨rfl, rfl⟩))
  refine bodyPost_ret (results_row_tmp rfl _ _ w.heap.size 42 _ _ rfl (Has.beside (Has.made w 42 _) _) Tryd.underlying42 rfl (by kernel_rfl)) rfl ?_
  refine ⟨_, _, _, _, _, _, _, _, _, by rw [HK.out]; rfl, ⟨?_, ?_, ?_⟩, ?_, ?_⟩
  · rw [H1.out]
    first | exact sl_nil _ _ | (refine sl_has (t := 3) ?_ rfl; repeat (first | exact has_made_at (by simp) | refine Has.beside ?_ _))
  · rw [H2.out]
    first | exact sl_nil _ _ | (refine sl_has (t := 3) ?_ rfl; repeat (first | exact has_made_at (by simp) | refine Has.beside ?_ _))
  · rw [H3.out]
    first | exact sl_nil _ _ | (refine sl_has (t := 3) ?_ rfl; repeat (first | exact has_made_at (by simp) | refine Has.beside ?_ _))
  · repeat (first | exact Below.refl _ _ | refine Below.alloc ?_ (by simp; try omega) _)
  · intro a h
    rcases h with h | h | h
    all_goals first | (cases h; done) | (cases h; dsimp only; omega)

set_option maxRecDepth 100000 in
set_option maxHeartbeats 4000000 in
theorem kd_18 (w : World) : Calls Tryd.prog 22 #[.int .i64 18] w (KdPost2 18 w) := by
  have hk : mknown 18 = true := by kernel_rfl
  have e1 : intsI (ownI (mrow 18)) = [.int .i64 88] := by kernel_rfl
  have e2 : intsI (firstL (mrow 18).kd) = [] := by kernel_rfl
  have e3 : intsI (mrow 18).mayL = [] := by kernel_rfl
  unfold KdPost2
  have HK := Lib.hid hk; have H1 := Lib.hid e1; have H2 := Lib.hid e2; have H3 := Lib.hid e3
  clear hk e1 e2 e3
  go_enter Tryd.func22, Tryd.ntmps22
  go_wp2_with (first
    | (go_at_call 52; refine (authority_any _ _ _ _ _ _ _).mono ?_; rintro e w1 ⟨rfl, rfl⟩)
    | (go_at_call 53; refine (report_any _ _ _ _ _ _ _).mono ?_; rintro e w1 ⟨rfl, rfl⟩))
  refine bodyPost_ret (results_row_tmp rfl _ _ w.heap.size 42 _ _ rfl (Has.beside (Has.made w 42 _) _) Tryd.underlying42 rfl (by kernel_rfl)) rfl ?_
  refine ⟨_, _, _, _, _, _, _, _, _, by rw [HK.out]; rfl, ⟨?_, ?_, ?_⟩, ?_, ?_⟩
  · rw [H1.out]
    first | exact sl_nil _ _ | (refine sl_has (t := 3) ?_ rfl; repeat (first | exact has_made_at (by simp) | refine Has.beside ?_ _))
  · rw [H2.out]
    first | exact sl_nil _ _ | (refine sl_has (t := 3) ?_ rfl; repeat (first | exact has_made_at (by simp) | refine Has.beside ?_ _))
  · rw [H3.out]
    first | exact sl_nil _ _ | (refine sl_has (t := 3) ?_ rfl; repeat (first | exact has_made_at (by simp) | refine Has.beside ?_ _))
  · repeat (first | exact Below.refl _ _ | refine Below.alloc ?_ (by simp; try omega) _)
  · intro a h
    rcases h with h | h | h
    all_goals first | (cases h; done) | (cases h; dsimp only; omega)

set_option maxRecDepth 100000 in
set_option maxHeartbeats 4000000 in
theorem kd_24 (w : World) : Calls Tryd.prog 22 #[.int .i64 24] w (KdPost2 24 w) := by
  have hk : mknown 24 = true := by kernel_rfl
  have e1 : intsI (ownI (mrow 24)) = [] := by kernel_rfl
  have e2 : intsI (firstL (mrow 24).kd) = [] := by kernel_rfl
  have e3 : intsI (mrow 24).mayL = [.int .i64 3, .int .i64 5, .int .i64 21, .int .i64 27, .int .i64 42, .int .i64 57, .int .i64 58] := by kernel_rfl
  unfold KdPost2
  have HK := Lib.hid hk; have H1 := Lib.hid e1; have H2 := Lib.hid e2; have H3 := Lib.hid e3
  clear hk e1 e2 e3
  go_enter Tryd.func22, Tryd.ntmps22
  go_wp2_with (first
    | (go_at_call 52; refine (authority_any _ _ _ _ _ _ _).mono ?_; rintro e w1 ⟨rfl, rfl⟩)
    | (go_at_call 53; refine (report_any _ _ _ _ _ _ _).mono ?_; rintro e w1 ⟨rfl, rfl⟩))
  refine bodyPost_ret (results_row_tmp rfl _ _ w.heap.size 42 _ _ rfl (Has.beside (Has.made w 42 _) _) Tryd.underlying42 rfl (by kernel_rfl)) rfl ?_
  refine ⟨_, _, _, _, _, _, _, _, _, by rw [HK.out]; rfl, ⟨?_, ?_, ?_⟩, ?_, ?_⟩
  · rw [H1.out]
    first | exact sl_nil _ _ | (refine sl_has (t := 3) ?_ rfl; repeat (first | exact has_made_at (by simp) | refine Has.beside ?_ _))
  · rw [H2.out]
    first | exact sl_nil _ _ | (refine sl_has (t := 3) ?_ rfl; repeat (first | exact has_made_at (by simp) | refine Has.beside ?_ _))
  · rw [H3.out]
    first | exact sl_nil _ _ | (refine sl_has (t := 3) ?_ rfl; repeat (first | exact has_made_at (by simp) | refine Has.beside ?_ _))
  · repeat (first | exact Below.refl _ _ | refine Below.alloc ?_ (by simp; try omega) _)
  · intro a h
    rcases h with h | h | h
    all_goals first | (cases h; done) | (cases h; dsimp only; omega)

set_option maxRecDepth 100000 in
set_option maxHeartbeats 4000000 in
theorem kd_32 (w : World) : Calls Tryd.prog 22 #[.int .i64 32] w (KdPost2 32 w) := by
  have hk : mknown 32 = true := by kernel_rfl
  have e1 : intsI (ownI (mrow 32)) = [.int .i64 92] := by kernel_rfl
  have e2 : intsI (firstL (mrow 32).kd) = [] := by kernel_rfl
  have e3 : intsI (mrow 32).mayL = [] := by kernel_rfl
  unfold KdPost2
  have HK := Lib.hid hk; have H1 := Lib.hid e1; have H2 := Lib.hid e2; have H3 := Lib.hid e3
  clear hk e1 e2 e3
  go_enter Tryd.func22, Tryd.ntmps22
  go_wp2_with (first
    | (go_at_call 52; refine (authority_any _ _ _ _ _ _ _).mono ?_; rintro e w1 ⟨rfl, rfl⟩)
    | (go_at_call 53; refine (report_any _ _ _ _ _ _ _).mono ?_; rintro e w1 ⟨rfl, rfl⟩))
  refine bodyPost_ret (results_row_tmp rfl _ _ w.heap.size 42 _ _ rfl (Has.beside (Has.made w 42 _) _) Tryd.underlying42 rfl (by kernel_rfl)) rfl ?_
  refine ⟨_, _, _, _, _, _, _, _, _, by rw [HK.out]; rfl, ⟨?_, ?_, ?_⟩, ?_, ?_⟩
  · rw [H1.out]
    first | exact sl_nil _ _ | (refine sl_has (t := 3) ?_ rfl; repeat (first | exact has_made_at (by simp) | refine Has.beside ?_ _))
  · rw [H2.out]
    first | exact sl_nil _ _ | (refine sl_has (t := 3) ?_ rfl; repeat (first | exact has_made_at (by simp) | refine Has.beside ?_ _))
  · rw [H3.out]
    first | exact sl_nil _ _ | (refine sl_has (t := 3) ?_ rfl; repeat (first | exact has_made_at (by simp) | refine Has.beside ?_ _))
  · repeat (first | exact Below.refl _ _ | refine Below.alloc ?_ (by simp; try omega) _)
  · intro a h
    rcases h with h | h | h
    all_goals first | (cases h; done) | (cases h; dsimp only; omega)

set_option maxRecDepth 100000 in
set_option maxHeartbeats 4000000 in
theorem kd_33 (w : World) : Calls Tryd.prog 22 #[.int .i64 33] w (KdPost2 33 w) := by
  have hk : mknown 33 = true := by kernel_rfl
  have e1 : intsI (ownI (mrow 33)) = [.int .i64 8, .int .i64 89] := by kernel_rfl
  have e2 : intsI (firstL (mrow 33).kd) = [.int .i64 15] := by kernel_rfl
  have e3 : intsI (mrow 33).mayL = [.int .i64 5, .int .i64 21, .int .i64 27, .int .i64 80] := by kernel_rfl
  unfold KdPost2
  have HK := Lib.hid hk; have H1 := Lib.hid e1; have H2 := Lib.hid e2; have H3 := Lib.hid e3
  clear hk e1 e2 e3
  go_enter Tryd.func22, Tryd.ntmps22
  go_wp2_with (first
    | (go_at_call 52; refine (authority_any _ _ _ _ _ _ _).mono ?_; rintro e w1 ⟨rfl, rfl⟩)
    | (go_at_call 53; refine (report_any _ _ _ _ _ _ _).mono ?_; rintro e w1 ⟨rfl, rfl⟩))
  refine bodyPost_ret (results_row_tmp rfl _ _ w.heap.size 42 _ _ rfl (Has.beside (Has.beside (Has.beside (Has.beside (Has.made w 42 _) _) _) _) _) Tryd.underlying42 rfl (by kernel_rfl)) rfl ?_
  refine ⟨_, _, _, _, _, _, _, _, _, by rw [HK.out]; rfl, ⟨?_, ?_, ?_⟩, ?_, ?_⟩
  · rw [H1.out]
    first | exact sl_nil _ _ | (refine sl_has (t := 3) ?_ rfl; repeat (first | exact has_made_at (by simp) | refine Has.beside ?_ _))
  · rw [H2.out]
    first | exact sl_nil _ _ | (refine sl_has (t := 3) ?_ rfl; repeat (first | exact has_made_at (by simp) | refine Has.beside ?_ _))
  · rw [H3.out]
    first | exact sl_nil _ _ | (refine sl_has (t := 3) ?_ rfl; repeat (first | exact has_made_at (by simp) | refine Has.beside ?_ _))
  · repeat (first | exact Below.refl _ _ | refine Below.alloc ?_ (by simp; try omega) _)
  · intro a h
    rcases h with h | h | h
    all_goals first | (cases h; done) | (cases h; dsimp only; omega)

set_option maxRecDepth 100000 in
set_option maxHeartbeats 4000000 in
theorem kd_34 (w : World) : Calls Tryd.prog 22 #[.int .i64 34] w (KdPost2 34 w) := by
  have hk : mknown 34 = true := by kernel_rfl
  have e1 : intsI (ownI (mrow 34)) = [.int .i64 8, .int .i64 89, .int .i64 6, .int .i64 72, .int .i64 28] := by kernel_rfl
  have e2 : intsI (firstL (mrow 34).kd) = [] := by kernel_rfl
  have e3 : intsI (mrow 34).mayL = [] := by kernel_rfl
  unfold KdPost2
  have HK := Lib.hid hk; have H1 := Lib.hid e1; have H2 := Lib.hid e2; have H3 := Lib.hid e3
  clear hk e1 e2 e3
  go_enter Tryd.func22, Tryd.ntmps22
  go_wp2_with (first
    | (go_at_call 52; refine (authority_any _ _ _ _ _ _ _).mono ?_; rintro e w1 ⟨rfl, rfl⟩)
    | (go_at_call 53; refine (report_any _ _ _ _ _ _ _).mono ?_; rintro e w1 ⟨rfl, rfl⟩))
  refine bodyPost_ret (results_row_tmp rfl _ _ w.heap.size 42 _ _ rfl (Has.beside (Has.made w 42 _) _) Tryd.underlying42 rfl (by kernel_rfl)) rfl ?_
  refine ⟨_, _, _, _, _, _, _, _, _, by rw [HK.out]; rfl, ⟨?_, ?_, ?_⟩, ?_, ?_⟩
  · rw [H1.out]
    first | exact sl_nil _ _ | (refine sl_has (t := 3) ?_ rfl; repeat (first | exact has_made_at (by simp) | refine Has.beside ?_ _))
  · rw [H2.out]
    first | exact sl_nil _ _ | (refine sl_has (t := 3) ?_ rfl; repeat (first | exact has_made_at (by simp) | refine Has.beside ?_ _))
  · rw [H3.out]
    first | exact sl_nil _ _ | (refine sl_has (t := 3) ?_ rfl; repeat (first | exact has_made_at (by simp) | refine Has.beside ?_ _))
  · repeat (first | exact Below.refl _ _ | refine Below.alloc ?_ (by simp; try omega) _)
  · intro a h
    rcases h with h | h | h
    all_goals first | (cases h; done) | (cases h; dsimp only; omega)

set_option maxRecDepth 100000 in
set_option maxHeartbeats 4000000 in
theorem kd_38 (w : World) : Calls Tryd.prog 22 #[.int .i64 38] w (KdPost2 38 w) := by
  have hk : mknown 38 = true := by kernel_rfl
  have e1 : intsI (ownI (mrow 38)) = [] := by kernel_rfl
  have e2 : intsI (firstL (mrow 38).kd) = [] := by kernel_rfl
  have e3 : intsI (mrow 38).mayL = [] := by kernel_rfl
  unfold KdPost2
  have HK := Lib.hid hk; have H1 := Lib.hid e1; have H2 := Lib.hid e2; have H3 := Lib.hid e3
  clear hk e1 e2 e3
  go_enter Tryd.func22, Tryd.ntmps22
  go_wp2_with (first
    | (go_at_call 52; refine (authority_any _ _ _ _ _ _ _).mono ?_; rintro e w1 ⟨rfl, rfl⟩)
    | (go_at_call 53; refine (report_any _ _ _ _ _ _ _).mono ?_; rintro e w1 ⟨rfl, rfl⟩))
  refine bodyPost_ret (results_row_tmp rfl _ _ w.heap.size 42 _ _ rfl (Has.made w 42 _) Tryd.underlying42 rfl (by kernel_rfl)) rfl ?_
  refine ⟨_, _, _, _, _, _, _, _, _, by rw [HK.out]; rfl, ⟨?_, ?_, ?_⟩, ?_, ?_⟩
  · rw [H1.out]
    first | exact sl_nil _ _ | (refine sl_has (t := 3) ?_ rfl; repeat (first | exact has_made_at (by simp) | refine Has.beside ?_ _))
  · rw [H2.out]
    first | exact sl_nil _ _ | (refine sl_has (t := 3) ?_ rfl; repeat (first | exact has_made_at (by simp) | refine Has.beside ?_ _))
  · rw [H3.out]
    first | exact sl_nil _ _ | (refine sl_has (t := 3) ?_ rfl; repeat (first | exact has_made_at (by simp) | refine Has.beside ?_ _))
  · repeat (first | exact Below.refl _ _ | refine Below.alloc ?_ (by simp; try omega) _)
  · intro a h
    rcases h with h | h | h
    all_goals first | (cases h; done) | (cases h; dsimp only; omega)

set_option maxRecDepth 100000 in
set_option maxHeartbeats 4000000 in
theorem kd_39 (w : World) : Calls Tryd.prog 22 #[.int .i64 39] w (KdPost2 39 w) := by
  have hk : mknown 39 = true := by kernel_rfl
  have e1 : intsI (ownI (mrow 39)) = [] := by kernel_rfl
  have e2 : intsI (firstL (mrow 39).kd) = [] := by kernel_rfl
  have e3 : intsI (mrow 39).mayL = [] := by kernel_rfl
  unfold KdPost2
  have HK := Lib.hid hk; have H1 := Lib.hid e1; have H2 := Lib.hid e2; have H3 := Lib.hid e3
  clear hk e1 e2 e3
  go_enter Tryd.func22, Tryd.ntmps22
  go_wp2_with (first
    | (go_at_call 52; refine (authority_any _ _ _ _ _ _ _).mono ?_; rintro e w1 ⟨rfl, rfl⟩)
    | (go_at_call 53; refine (report_any _ _ _ _ _ _ _).mono ?_; rintro e w1 ⟨rfl, rfl⟩))
  refine bodyPost_ret (results_row_tmp rfl _ _ w.heap.size 42 _ _ rfl (Has.made w 42 _) Tryd.underlying42 rfl (by kernel_rfl)) rfl ?_
  refine ⟨_, _, _, _, _, _, _, _, _, by rw [HK.out]; rfl, ⟨?_, ?_, ?_⟩, ?_, ?_⟩
  · rw [H1.out]
    first | exact sl_nil _ _ | (refine sl_has (t := 3) ?_ rfl; repeat (first | exact has_made_at (by simp) | refine Has.beside ?_ _))
  · rw [H2.out]
    first | exact sl_nil _ _ | (refine sl_has (t := 3) ?_ rfl; repeat (first | exact has_made_at (by simp) | refine Has.beside ?_ _))
  · rw [H3.out]
    first | exact sl_nil _ _ | (refine sl_has (t := 3) ?_ rfl; repeat (first | exact has_made_at (by simp) | refine Has.beside ?_ _))
  · repeat (first | exact Below.refl _ _ | refine Below.alloc ?_ (by simp; try omega) _)
  · intro a h
    rcases h with h | h | h
    all_goals first | (cases h; done) | (cases h; dsimp only; omega)

set_option maxRecDepth 100000 in
set_option maxHeartbeats 4000000 in
theorem kd_40 (w : World) : Calls Tryd.prog 22 #[.int .i64 40] w (KdPost2 40 w) := by
  have hk : mknown 40 = true := by kernel_rfl
  have e1 : intsI (ownI (mrow 40)) = [] := by kernel_rfl
  have e2 : intsI (firstL (mrow 40).kd) = [] := by kernel_rfl
  have e3 : intsI (mrow 40).mayL = [] := by kernel_rfl
  unfold KdPost2
  have HK := Lib.hid hk; have H1 := Lib.hid e1; have H2 := Lib.hid e2; have H3 := Lib.hid e3
  clear hk e1 e2 e3
  go_enter Tryd.func22, Tryd.ntmps22
  go_wp2_with (first
    | (go_at_call 52; refine (authority_any _ _ _ _ _ _ _).mono ?_; rintro e w1 ⟨rfl, rfl⟩)
    | (go_at_call 53; refine (report_any _ _ _ _ _ _ _).mono ?_; rintro e w1 ⟨rfl, rfl⟩))
  refine bodyPost_ret (results_row_tmp rfl _ _ w.heap.size 42 _ _ rfl (Has.made w 42 _) Tryd.underlying42 rfl (by kernel_rfl)) rfl ?_
  refine ⟨_, _, _, _, _, _, _, _, _, by rw [HK.out]; rfl, ⟨?_, ?_, ?_⟩, ?_, ?_⟩
  · rw [H1.out]
    first | exact sl_nil _ _ | (refine sl_has (t := 3) ?_ rfl; repeat (first | exact has_made_at (by simp) | refine Has.beside ?_ _))
  · rw [H2.out]
    first | exact sl_nil _ _ | (refine sl_has (t := 3) ?_ rfl; repeat (first | exact has_made_at (by simp) | refine Has.beside ?_ _))
  · rw [H3.out]
    first | exact sl_nil _ _ | (refine sl_has (t := 3) ?_ rfl; repeat (first | exact has_made_at (by simp) | refine Has.beside ?_ _))
  · repeat (first | exact Below.refl _ _ | refine Below.alloc ?_ (by simp; try omega) _)
  · intro a h
    rcases h with h | h | h
    all_goals first | (cases h; done) | (cases h; dsimp only; omega)

set_option maxRecDepth 100000 in
set_option maxHeartbeats 4000000 in
theorem kd_41 (w : World) : Calls Tryd.prog 22 #[.int .i64 41] w (KdPost2 41 w) := by
  have hk : mknown 41 = true := by kernel_rfl
  have e1 : intsI (ownI (mrow 41)) = [] := by kernel_rfl
  have e2 : intsI (firstL (mrow 41).kd) = [] := by kernel_rfl
  have e3 : intsI (mrow 41).mayL = [] := by kernel_rfl
  unfold KdPost2
  have HK := Lib.hid hk; have H1 := Lib.hid e1; have H2 := Lib.hid e2; have H3 := Lib.hid e3
  clear hk e1 e2 e3
  go_enter Tryd.func22, Tryd.ntmps22
  go_wp2_with (first
    | (go_at_call 52; refine (authority_any _ _ _ _ _ _ _).mono ?_; rintro e w1 ⟨rfl, rfl⟩)
    | (go_at_call 53; refine (report_any _ _ _ _ _ _ _).mono ?_; rintro e w1 ⟨rfl, rfl⟩))
  refine bodyPost_ret (results_row_tmp rfl _ _ w.heap.size 42 _ _ rfl (Has.made w 42 _) Tryd.underlying42 rfl (by kernel_rfl)) rfl ?_
  refine ⟨_, _, _, _, _, _, _, _, _, by rw [HK.out]; rfl, ⟨?_, ?_, ?_⟩, ?_, ?_⟩
  · rw [H1.out]
    first | exact sl_nil _ _ | (refine sl_has (t := 3) ?_ rfl; repeat (first | exact has_made_at (by simp) | refine Has.beside ?_ _))
  · rw [H2.out]
    first | exact sl_nil _ _ | (refine sl_has (t := 3) ?_ rfl; repeat (first | exact has_made_at (by simp) | refine Has.beside ?_ _))
  · rw [H3.out]
    first | exact sl_nil _ _ | (refine sl_has (t := 3) ?_ rfl; repeat (first | exact has_made_at (by simp) | refine Has.beside ?_ _))
  · repeat (first | exact Below.refl _ _ | refine Below.alloc ?_ (by simp; try omega) _)
  · intro a h
    rcases h with h | h | h
    all_goals first | (cases h; done) | (cases h; dsimp only; omega)

set_option maxRecDepth 100000 in
set_option maxHeartbeats 4000000 in
theorem kd_43 (w : World) : Calls Tryd.prog 22 #[.int .i64 43] w (KdPost2 43 w) := by
  have hk : mknown 43 = true := by kernel_rfl
  have e1 : intsI (ownI (mrow 43)) = [] := by kernel_rfl
  have e2 : intsI (firstL (mrow 43).kd) = [] := by kernel_rfl
  have e3 : intsI (mrow 43).mayL = [] := by kernel_rfl
  unfold KdPost2
  have HK := Lib.hid hk; have H1 := Lib.hid e1; have H2 := Lib.hid e2; have H3 := Lib.hid e3
  clear hk e1 e2 e3
  go_enter Tryd.func22, Tryd.ntmps22
  go_wp2_with (first
    | (go_at_call 52; refine (authority_any _ _ _ _ _ _ _).mono ?_; rintro e w1 ⟨rfl, rfl⟩)
    | (go_at_call 53; refine (report_any _ _ _ _ _ _ _).mono ?_; rintro e w1 ⟨rfl, rfl⟩))
  refine bodyPost_ret (results_row_tmp rfl _ _ w.heap.size 42 _ _ rfl (Has.made w 42 _) Tryd.underlying42 rfl (by kernel_rfl)) rfl ?_
  refine ⟨_, _, _, _, _, _, _, _, _, by rw [HK.out]; rfl, ⟨?_, ?_, ?_⟩, ?_, ?_⟩
  · rw [H1.out]
    first | exact sl_nil _ _ | (refine sl_has (t := 3) ?_ rfl; repeat (first | exact has_made_at (by simp) | refine Has.beside ?_ _))
  · rw [H2.out]
    first | exact sl_nil _ _ | (refine sl_has (t := 3) ?_ rfl; repeat (first | exact has_made_at (by simp) | refine Has.beside ?_ _))
  · rw [H3.out]
    first | exact sl_nil _ _ | (refine sl_has (t := 3) ?_ rfl; repeat (first | exact has_made_at (by simp) | refine Has.beside ?_ _))
  · repeat (first | exact Below.refl _ _ | refine Below.alloc ?_ (by simp; try omega) _)
  · intro a h
    rcases h with h | h | h
    all_goals first | (cases h; done) | (cases h; dsimp only; omega)

set_option maxRecDepth 100000 in
set_option maxHeartbeats 4000000 in
theorem kd_129 (w : World) : Calls Tryd.prog 22 #[.int .i64 129] w (KdPost2 129 w) := by
  have hk : mknown 129 = true := by kernel_rfl
  have e1 : intsI (ownI (mrow 129)) = [] := by kernel_rfl
  have e2 : intsI (firstL (mrow 129).kd) = [.int .i64 0, .int .i64 1] := by kernel_rfl
  have e3 : intsI (mrow 129).mayL = [.int .i64 11] := by kernel_rfl
  unfold KdPost2
  have HK := Lib.hid hk; have H1 := Lib.hid e1; have H2 := Lib.hid e2; have H3 := Lib.hid e3
  clear hk e1 e2 e3
  go_enter Tryd.func22, Tryd.ntmps22
  go_wp2_with (first
    | (go_at_call 52; refine (authority_any _ _ _ _ _ _ _).mono ?_; rintro e w1 ⟨rfl, rfl⟩)
    | (go_at_call 53; refine (report_any _ _ _ _ _ _ _).mono ?_; rintro e w1 ⟨rfl, rfl⟩))
  refine bodyPost_ret (results_row_tmp rfl _ _ w.heap.size 42 _ _ rfl (Has.beside (Has.beside (Has.beside (Has.made w 42 _) _) _) _) Tryd.underlying42 rfl (by kernel_rfl)) rfl ?_
  refine ⟨_, _, _, _, _, _, _, _, _, by rw [HK.out]; rfl, ⟨?_, ?_, ?_⟩, ?_, ?_⟩
  · rw [H1.out]
    first | exact sl_nil _ _ | (refine sl_has (t := 3) ?_ rfl; repeat (first | exact has_made_at (by simp) | refine Has.beside ?_ _))
  · rw [H2.out]
    first | exact sl_nil _ _ | (refine sl_has (t := 3) ?_ rfl; repeat (first | exact has_made_at (by simp) | refine Has.beside ?_ _))
  · rw [H3.out]
    first | exact sl_nil _ _ | (refine sl_has (t := 3) ?_ rfl; repeat (first | exact has_made_at (by simp) | refine Has.beside ?_ _))
  · repeat (first | exact Below.refl _ _ | refine Below.alloc ?_ (by simp; try omega) _)
  · intro a h
    rcases h with h | h | h
    all_goals first | (cases h; done) | (cases h; dsimp only; omega)

set_option maxRecDepth 100000 in
set_option maxHeartbeats 4000000 in
theorem kd_130 (w : World) : Calls Tryd.prog 22 #[.int .i64 130] w (KdPost2 130 w) := by
  have hk : mknown 130 = true := by kernel_rfl
  have e1 : intsI (ownI (mrow 130)) = [] := by kernel_rfl
  have e2 : intsI (firstL (mrow 130).kd) = [.int .i64 0, .int .i64 1] := by kernel_rfl
  have e3 : intsI (mrow 130).mayL = [] := by kernel_rfl
  unfold KdPost2
  have HK := Lib.hid hk; have H1 := Lib.hid e1; have H2 := Lib.hid e2; have H3 := Lib.hid e3
  clear hk e1 e2 e3
  go_enter Tryd.func22, Tryd.ntmps22
  go_wp2_with (first
    | (go_at_call 52; refine (authority_any _ _ _ _ _ _ _).mono ?_; rintro e w1 ⟨rfl, rfl⟩)
    | (go_at_call 53; refine (report_any _ _ _ _ _ _ _).mono ?_; rintro e w1 ⟨rfl, rfl⟩))
  refine bodyPost_ret (results_row_tmp rfl _ _ w.heap.size 42 _ _ rfl (Has.beside (Has.beside (Has.made w 42 _) _) _) Tryd.underlying42 rfl (by kernel_rfl)) rfl ?_
  refine ⟨_, _, _, _, _, _, _, _, _, by rw [HK.out]; rfl, ⟨?_, ?_, ?_⟩, ?_, ?_⟩
  · rw [H1.out]
    first | exact sl_nil _ _ | (refine sl_has (t := 3) ?_ rfl; repeat (first | exact has_made_at (by simp) | refine Has.beside ?_ _))
  · rw [H2.out]
    first | exact sl_nil _ _ | (refine sl_has (t := 3) ?_ rfl; repeat (first | exact has_made_at (by simp) | refine Has.beside ?_ _))
  · rw [H3.out]
    first | exact sl_nil _ _ | (refine sl_has (t := 3) ?_ rfl; repeat (first | exact has_made_at (by simp) | refine Has.beside ?_ _))
  · repeat (first | exact Below.refl _ _ | refine Below.alloc ?_ (by simp; try omega) _)
  · intro a h
    rcases h with h | h | h
    all_goals first | (cases h; done) | (cases h; dsimp only; omega)

set_option maxRecDepth 100000 in
set_option maxHeartbeats 4000000 in
theorem kd_132 (w : World) : Calls Tryd.prog 22 #[.int .i64 132] w (KdPost2 132 w) := by
  have hk : mknown 132 = true := by kernel_rfl
  have e1 : intsI (ownI (mrow 132)) = [.int .i64 94] := by kernel_rfl
  have e2 : intsI (firstL (mrow 132).kd) = [.int .i64 0, .int .i64 1] := by kernel_rfl
  have e3 : intsI (mrow 132).mayL = [] := by kernel_rfl
  unfold KdPost2
  have HK := Lib.hid hk; have H1 := Lib.hid e1; have H2 := Lib.hid e2; have H3 := Lib.hid e3
  clear hk e1 e2 e3
  go_enter Tryd.func22, Tryd.ntmps22
  go_wp2_with (first
    | (go_at_call 52; refine (authority_any _ _ _ _ _ _ _).mono ?_; rintro e w1 ⟨rfl, rfl⟩)
    | (go_at_call 53; refine (report_any _ _ _ _ _ _ _).mono ?_; rintro e w1 ⟨rfl, rfl⟩))
  refine bodyPost_ret (results_row_tmp rfl _ _ w.heap.size 42 _ _ rfl (Has.beside (Has.beside (Has.beside (Has.made w 42 _) _) _) _) Tryd.underlying42 rfl (by kernel_rfl)) rfl ?_
  refine ⟨_, _, _, _, _, _, _, _, _, by rw [HK.out]; rfl, ⟨?_, ?_, ?_⟩, ?_, ?_⟩
  · rw [H1.out]
    first | exact sl_nil _ _ | (refine sl_has (t := 3) ?_ rfl; repeat (first | exact has_made_at (by simp) | refine Has.beside ?_ _))
  · rw [H2.out]
    first | exact sl_nil _ _ | (refine sl_has (t := 3) ?_ rfl; repeat (first | exact has_made_at (by simp) | refine Has.beside ?_ _))
  · rw [H3.out]
    first | exact sl_nil _ _ | (refine sl_has (t := 3) ?_ rfl; repeat (first | exact has_made_at (by simp) | refine Has.beside ?_ _))
  · repeat (first | exact Below.refl _ _ | refine Below.alloc ?_ (by simp; try omega) _)
  · intro a h
    rcases h with h | h | h
    all_goals first | (cases h; done) | (cases h; dsimp only; omega)

set_option maxRecDepth 100000 in
set_option maxHeartbeats 4000000 in
theorem kd_136 (w : World) : Calls Tryd.prog 22 #[.int .i64 136] w (KdPost2 136 w) := by
  have hk : mknown 136 = true := by kernel_rfl
  have e1 : intsI (ownI (mrow 136)) = [] := by kernel_rfl
  have e2 : intsI (firstL (mrow 136).kd) = [.int .i64 0, .int .i64 1] := by kernel_rfl
  have e3 : intsI (mrow 136).mayL = [] := by kernel_rfl
  unfold KdPost2
  have HK := Lib.hid hk; have H1 := Lib.hid e1; have H2 := Lib.hid e2; have H3 := Lib.hid e3
  clear hk e1 e2 e3
  go_enter Tryd.func22, Tryd.ntmps22
  go_wp2_with (first
    | (go_at_call 52; refine (authority_any _ _ _ _ _ _ _).mono ?_; rintro e w1 ⟨rfl, rfl⟩)
    | (go_at_call 53; refine (report_any _ _ _ _ _ _ _).mono ?_; rintro e w1 ⟨rfl, rfl⟩))
  refine bodyPost_ret (results_row_tmp rfl _ _ w.heap.size 42 _ _ rfl (Has.beside (Has.beside (Has.made w 42 _) _) _) Tryd.underlying42 rfl (by kernel_rfl)) rfl ?_
  refine ⟨_, _, _, _, _, _, _, _, _, by rw [HK.out]; rfl, ⟨?_, ?_, ?_⟩, ?_, ?_⟩
  · rw [H1.out]
    first | exact sl_nil _ _ | (refine sl_has (t := 3) ?_ rfl; repeat (first | exact has_made_at (by simp) | refine Has.beside ?_ _))
  · rw [H2.out]
    first | exact sl_nil _ _ | (refine sl_has (t := 3) ?_ rfl; repeat (first | exact has_made_at (by simp) | refine Has.beside ?_ _))
  · rw [H3.out]
    first | exact sl_nil _ _ | (refine sl_has (t := 3) ?_ rfl; repeat (first | exact has_made_at (by simp) | refine Has.beside ?_ _))
  · repeat (first | exact Below.refl _ _ | refine Below.alloc ?_ (by simp; try omega) _)
  · intro a h
    rcases h with h | h | h
    all_goals first | (cases h; done) | (cases h; dsimp only; omega)

set_option maxRecDepth 100000 in
set_option maxHeartbeats 4000000 in
theorem kd_137 (w : World) : Calls Tryd.prog 22 #[.int .i64 137] w (KdPost2 137 w) := by
  have hk : mknown 137 = true := by kernel_rfl
  have e1 : intsI (ownI (mrow 137)) = [.int .i64 2] := by kernel_rfl
  have e2 : intsI (firstL (mrow 137).kd) = [] := by kernel_rfl
  have e3 : intsI (mrow 137).mayL = [] := by kernel_rfl
  unfold KdPost2
  have HK := Lib.hid hk; have H1 := Lib.hid e1; have H2 := Lib.hid e2; have H3 := Lib.hid e3
  clear hk e1 e2 e3
  go_enter Tryd.func22, Tryd.ntmps22
  go_wp2_with (first
    | (go_at_call 52; refine (authority_any _ _ _ _ _ _ _).mono ?_; rintro e w1 ⟨rfl, rfl⟩)
    | (go_at_call 53; refine (report_any _ _ _ _ _ _ _).mono ?_; rintro e w1 ⟨rfl, rfl⟩))
  refine bodyPost_ret (results_row_tmp rfl _ _ w.heap.size 42 _ _ rfl (Has.beside (Has.made w 42 _) _) Tryd.underlying42 rfl (by kernel_rfl)) rfl ?_
  refine ⟨_, _, _, _, _, _, _, _, _, by rw [HK.out]; rfl, ⟨?_, ?_, ?_⟩, ?_, ?_⟩
  · rw [H1.out]
    first | exact sl_nil _ _ | (refine sl_has (t := 3) ?_ rfl; repeat (first | exact has_made_at (by simp) | refine Has.beside ?_ _))
  · rw [H2.out]
    first | exact sl_nil _ _ | (refine sl_has (t := 3) ?_ rfl; repeat (first | exact has_made_at (by simp) | refine Has.beside ?_ _))
  · rw [H3.out]
    first | exact sl_nil _ _ | (refine sl_has (t := 3) ?_ rfl; repeat (first | exact has_made_at (by simp) | refine Has.beside ?_ _))
  · repeat (first | exact Below.refl _ _ | refine Below.alloc ?_ (by simp; try omega) _)
  · intro a h
    rcases h with h | h | h
    all_goals first | (cases h; done) | (cases h; dsimp only; omega)

set_option maxRecDepth 100000 in
set_option maxHeartbeats 4000000 in
theorem kd_138 (w : World) : Calls Tryd.prog 22 #[.int .i64 138] w (KdPost2 138 w) := by
  have hk : mknown 138 = true := by kernel_rfl
  have e1 : intsI (ownI (mrow 138)) = [.int .i64 2] := by kernel_rfl
  have e2 : intsI (firstL (mrow 138).kd) = [] := by kernel_rfl
  have e3 : intsI (mrow 138).mayL = [] := by kernel_rfl
  unfold KdPost2
  have HK := Lib.hid hk; have H1 := Lib.hid e1; have H2 := Lib.hid e2; have H3 := Lib.hid e3
  clear hk e1 e2 e3
  go_enter Tryd.func22, Tryd.ntmps22
  go_wp2_with (first
    | (go_at_call 52; refine (authority_any _ _ _ _ _ _ _).mono ?_; rintro e w1 ⟨rfl, rfl⟩)
    | (go_at_call 53; refine (report_any _ _ _ _ _ _ _).mono ?_; rintro e w1 ⟨rfl, rfl⟩))
  refine bodyPost_ret (results_row_tmp rfl _ _ w.heap.size 42 _ _ rfl (Has.beside (Has.made w 42 _) _) Tryd.underlying42 rfl (by kernel_rfl)) rfl ?_
  refine ⟨_, _, _, _, _, _, _, _, _, by rw [HK.out]; rfl, ⟨?_, ?_, ?_⟩, ?_, ?_⟩
  · rw [H1.out]
    first | exact sl_nil _ _ | (refine sl_has (t := 3) ?_ rfl; repeat (first | exact has_made_at (by simp) | refine Has.beside ?_ _))
  · rw [H2.out]
    first | exact sl_nil _ _ | (refine sl_has (t := 3) ?_ rfl; repeat (first | exact has_made_at (by simp) | refine Has.beside ?_ _))
  · rw [H3.out]
    first | exact sl_nil _ _ | (refine sl_has (t := 3) ?_ rfl; repeat (first | exact has_made_at (by simp) | refine Has.beside ?_ _))
  · repeat (first | exact Below.refl _ _ | refine Below.alloc ?_ (by simp; try omega) _)
  · intro a h
    rcases h with h | h | h
    all_goals first | (cases h; done) | (cases h; dsimp only; omega)

set_option maxRecDepth 100000 in
set_option maxHeartbeats 4000000 in
theorem kd_146 (w : World) : Calls Tryd.prog 22 #[.int .i64 146] w (KdPost2 146 w) := by
  have hk : mknown 146 = true := by kernel_rfl
  have e1 : intsI (ownI (mrow 146)) = [.int .i64 2] := by kernel_rfl
  have e2 : intsI (firstL (mrow 146).kd) = [] := by kernel_rfl
  have e3 : intsI (mrow 146).mayL = [] := by kernel_rfl
  unfold KdPost2
  have HK := Lib.hid hk; have H1 := Lib.hid e1; have H2 := Lib.hid e2; have H3 := Lib.hid e3
  clear hk e1 e2 e3
  go_enter Tryd.func22, Tryd.ntmps22
  go_wp2_with (first
    | (go_at_call 52; refine (authority_any _ _ _ _ _ _ _).mono ?_; rintro e w1 ⟨rfl, rfl⟩)
    | (go_at_call 53; refine (report_any _ _ _ _ _ _ _).mono ?_; rintro e w1 ⟨rfl, rfl⟩))
  refine bodyPost_ret (results_row_tmp rfl _ _ w.heap.size 42 _ _ rfl (Has.beside (Has.made w 42 _) _) Tryd.underlying42 rfl (by kernel_rfl)) rfl ?_
  refine ⟨_, _, _, _, _, _, _, _, _, by rw [HK.out]; rfl, ⟨?_, ?_, ?_⟩, ?_, ?_⟩
  · rw [H1.out]
    first | exact sl_nil _ _ | (refine sl_has (t := 3) ?_ rfl; repeat (first | exact has_made_at (by simp) | refine Has.beside ?_ _))
  · rw [H2.out]
    first | exact sl_nil _ _ | (refine sl_has (t := 3) ?_ rfl; repeat (first | exact has_made_at (by simp) | refine Has.beside ?_ _))
  · rw [H3.out]
    first | exact sl_nil _ _ | (refine sl_has (t := 3) ?_ rfl; repeat (first | exact has_made_at (by simp) | refine Has.beside ?_ _))
  · repeat (first | exact Below.refl _ _ | refine Below.alloc ?_ (by simp; try omega) _)
  · intro a h
    rcases h with h | h | h
    all_goals first | (cases h; done) | (cases h; dsimp only; omega)

set_option maxRecDepth 100000 in
set_option maxHeartbeats 4000000 in
theorem kd_147 (w : World) : Calls Tryd.prog 22 #[.int .i64 147] w (KdPost2 147 w) := by
  have hk : mknown 147 = true := by kernel_rfl
  have e1 : intsI (ownI (mrow 147)) = [.int .i64 88, .int .i64 91] := by kernel_rfl
  have e2 : intsI (firstL (mrow 147).kd) = [.int .i64 0, .int .i64 1] := by kernel_rfl
  have e3 : intsI (mrow 147).mayL = [] := by kernel_rfl
  unfold KdPost2
  have HK := Lib.hid hk; have H1 := Lib.hid e1; have H2 := Lib.hid e2; have H3 := Lib.hid e3
  clear hk e1 e2 e3
  go_enter Tryd.func22, Tryd.ntmps22
  go_wp2_with (first
    | (go_at_call 52; refine (authority_any _ _ _ _ _ _ _).mono ?_; rintro e w1 ⟨rfl, rfl⟩)
    | (go_at_call 53; refine (report_any _ _ _ _ _ _ _).mono ?_; rintro e w1 ⟨rfl, rfl⟩))
  refine bodyPost_ret (results_row_tmp rfl _ _ w.heap.size 42 _ _ rfl (Has.beside (Has.beside (Has.beside (Has.made w 42 _) _) _) _) Tryd.underlying42 rfl (by kernel_rfl)) rfl ?_
  refine ⟨_, _, _, _, _, _, _, _, _, by rw [HK.out]; rfl, ⟨?_, ?_, ?_⟩, ?_, ?_⟩
  · rw [H1.out]
    first | exact sl_nil _ _ | (refine sl_has (t := 3) ?_ rfl; repeat (first | exact has_made_at (by simp) | refine Has.beside ?_ _))
  · rw [H2.out]
    first | exact sl_nil _ _ | (refine sl_has (t := 3) ?_ rfl; repeat (first | exact has_made_at (by simp) | refine Has.beside ?_ _))
  · rw [H3.out]
    first | exact sl_nil _ _ | (refine sl_has (t := 3) ?_ rfl; repeat (first | exact has_made_at (by simp) | refine Has.beside ?_ _))
  · repeat (first | exact Below.refl _ _ | refine Below.alloc ?_ (by simp; try omega) _)
  · intro a h
    rcases h with h | h | h
    all_goals first | (cases h; done) | (cases h; dsimp only; omega)

set_option maxRecDepth 100000 in
set_option maxHeartbeats 4000000 in
theorem kd_149 (w : World) : Calls Tryd.prog 22 #[.int .i64 149] w (KdPost2 149 w) := by
  have hk : mknown 149 = true := by kernel_rfl
  have e1 : intsI (ownI (mrow 149)) = [] := by kernel_rfl
  have e2 : intsI (firstL (mrow 149).kd) = [.int .i64 0, .int .i64 1] := by kernel_rfl
  have e3 : intsI (mrow 149).mayL = [] := by kernel_rfl
  unfold KdPost2
  have HK := Lib.hid hk; have H1 := Lib.hid e1; have H2 := Lib.hid e2; have H3 := Lib.hid e3
  clear hk e1 e2 e3
  go_enter Tryd.func22, Tryd.ntmps22
  go_wp2_with (first
    | (go_at_call 52; refine (authority_any _ _ _ _ _ _ _).mono ?_; rintro e w1 ⟨rfl, rfl⟩)
    | (go_at_call 53; refine (report_any _ _ _ _ _ _ _).mono ?_; rintro e w1 ⟨rfl, rfl⟩))
  refine bodyPost_ret (results_row_tmp rfl _ _ w.heap.size 42 _ _ rfl (Has.beside (Has.beside (Has.made w 42 _) _) _) Tryd.underlying42 rfl (by kernel_rfl)) rfl ?_
  refine ⟨_, _, _, _, _, _, _, _, _, by rw [HK.out]; rfl, ⟨?_, ?_, ?_⟩, ?_, ?_⟩
  · rw [H1.out]
    first | exact sl_nil _ _ | (refine sl_has (t := 3) ?_ rfl; repeat (first | exact has_made_at (by simp) | refine Has.beside ?_ _))
  · rw [H2.out]
    first | exact sl_nil _ _ | (refine sl_has (t := 3) ?_ rfl; repeat (first | exact has_made_at (by simp) | refine Has.beside ?_ _))
  · rw [H3.out]
    first | exact sl_nil _ _ | (refine sl_has (t := 3) ?_ rfl; repeat (first | exact has_made_at (by simp) | refine Has.beside ?_ _))
  · repeat (first | exact Below.refl _ _ | refine Below.alloc ?_ (by simp; try omega) _)
  · intro a h
    rcases h with h | h | h
    all_goals first | (cases h; done) | (cases h; dsimp only; omega)

set_option maxRecDepth 100000 in
set_option maxHeartbeats 4000000 in
theorem kd_150 (w : World) : Calls Tryd.prog 22 #[.int .i64 150] w (KdPost2 150 w) := by
  have hk : mknown 150 = true := by kernel_rfl
  have e1 : intsI (ownI (mrow 150)) = [] := by kernel_rfl
  have e2 : intsI (firstL (mrow 150).kd) = [.int .i64 0, .int .i64 1] := by kernel_rfl
  have e3 : intsI (mrow 150).mayL = [] := by kernel_rfl
  unfold KdPost2
  have HK := Lib.hid hk; have H1 := Lib.hid e1; have H2 := Lib.hid e2; have H3 := Lib.hid e3
  clear hk e1 e2 e3
  go_enter Tryd.func22, Tryd.ntmps22
  go_wp2_with (first
    | (go_at_call 52; refine (authority_any _ _ _ _ _ _ _).mono ?_; rintro e w1 ⟨rfl, rfl⟩)
    | (go_at_call 53; refine (report_any _ _ _ _ _ _ _).mono ?_; rintro e w1 ⟨rfl, rfl⟩))
  refine bodyPost_ret (results_row_tmp rfl _ _ w.heap.size 42 _ _ rfl (Has.beside (Has.beside (Has.made w 42 _) _) _) Tryd.underlying42 rfl (by kernel_rfl)) rfl ?_
  refine ⟨_, _, _, _, _, _, _, _, _, by rw [HK.out]; rfl, ⟨?_, ?_, ?_⟩, ?_, ?_⟩
  · rw [H1.out]
    first | exact sl_nil _ _ | (refine sl_has (t := 3) ?_ rfl; repeat (first | exact has_made_at (by simp) | refine Has.beside ?_ _))
  · rw [H2.out]
    first | exact sl_nil _ _ | (refine sl_has (t := 3) ?_ rfl; repeat (first | exact has_made_at (by simp) | refine Has.beside ?_ _))
  · rw [H3.out]
    first | exact sl_nil _ _ | (refine sl_has (t := 3) ?_ rfl; repeat (first | exact has_made_at (by simp) | refine Has.beside ?_ _))
  · repeat (first | exact Below.refl _ _ | refine Below.alloc ?_ (by simp; try omega) _)
  · intro a h
    rcases h with h | h | h
    all_goals first | (cases h; done) | (cases h; dsimp only; omega)

set_option maxRecDepth 100000 in
set_option maxHeartbeats 4000000 in
theorem kd_155 (w : World) : Calls Tryd.prog 22 #[.int .i64 155] w (KdPost2 155 w) := by
  have hk : mknown 155 = true := by kernel_rfl
  have e1 : intsI (ownI (mrow 155)) = [] := by kernel_rfl
  have e2 : intsI (firstL (mrow 155).kd) = [] := by kernel_rfl
  have e3 : intsI (mrow 155).mayL = [] := by kernel_rfl
  unfold KdPost2
  have HK := Lib.hid hk; have H1 := Lib.hid e1; have H2 := Lib.hid e2; have H3 := Lib.hid e3
  clear hk e1 e2 e3
  go_enter Tryd.func22, Tryd.ntmps22
  go_wp2_with (first
    | (go_at_call 52; refine (authority_any _ _ _ _ _ _ _).mono ?_; rintro e w1 ⟨rfl, rfl⟩)
    | (go_at_call 53; refine (report_any _ _ _ _ _ _ _).mono ?_; rintro e w1 ⟨rfl, rfl⟩))
  refine bodyPost_ret (results_row_tmp rfl _ _ w.heap.size 42 _ _ rfl (Has.made w 42 _) Tryd.underlying42 rfl (by kernel_rfl)) rfl ?_
  refine ⟨_, _, _, _, _, _, _, _, _, by rw [HK.out]; rfl, ⟨?_, ?_, ?_⟩, ?_, ?_⟩
  · rw [H1.out]
    first | exact sl_nil _ _ | (refine sl_has (t := 3) ?_ rfl; repeat (first | exact has_made_at (by simp) | refine Has.beside ?_ _))
  · rw [H2.out]
    first | exact sl_nil _ _ | (refine sl_has (t := 3) ?_ rfl; repeat (first | exact has_made_at (by simp) | refine Has.beside ?_ _))
  · rw [H3.out]
    first | exact sl_nil _ _ | (refine sl_has (t := 3) ?_ rfl; repeat (first | exact has_made_at (by simp) | refine Has.beside ?_ _))
  · repeat (first | exact Below.refl _ _ | refine Below.alloc ?_ (by simp; try omega) _)
  · intro a h
    rcases h with h | h | h
    all_goals first | (cases h; done) | (cases h; dsimp only; omega)

set_option maxRecDepth 100000 in
set_option maxHeartbeats 4000000 in
theorem kd_156 (w : World) : Calls Tryd.prog 22 #[.int .i64 156] w (KdPost2 156 w) := by
  have hk : mknown 156 = true := by kernel_rfl
  have e1 : intsI (ownI (mrow 156)) = [] := by kernel_rfl
  have e2 : intsI (firstL (mrow 156).kd) = [] := by kernel_rfl
  have e3 : intsI (mrow 156).mayL = [] := by kernel_rfl
  unfold KdPost2
  have HK := Lib.hid hk; have H1 := Lib.hid e1; have H2 := Lib.hid e2; have H3 := Lib.hid e3
  clear hk e1 e2 e3
  go_enter Tryd.func22, Tryd.ntmps22
  go_wp2_with (first
    | (go_at_call 52; refine (authority_any _ _ _ _ _ _ _).mono ?_; rintro e w1 ⟨rfl, rfl⟩)
    | (go_at_call 53; refine (report_any _ _ _ _ _ _ _).mono ?_; rintro e w1 ⟨rfl, rfl⟩))
  refine bodyPost_ret (results_row_tmp rfl _ _ w.heap.size 42 _ _ rfl (Has.made w 42 _) Tryd.underlying42 rfl (by kernel_rfl)) rfl ?_
  refine ⟨_, _, _, _, _, _, _, _, _, by rw [HK.out]; rfl, ⟨?_, ?_, ?_⟩, ?_, ?_⟩
  · rw [H1.out]
    first | exact sl_nil _ _ | (refine sl_has (t := 3) ?_ rfl; repeat (first | exact has_made_at (by simp) | refine Has.beside ?_ _))
  · rw [H2.out]
    first | exact sl_nil _ _ | (refine sl_has (t := 3) ?_ rfl; repeat (first | exact has_made_at (by simp) | refine Has.beside ?_ _))
  · rw [H3.out]
    first | exact sl_nil _ _ | (refine sl_has (t := 3) ?_ rfl; repeat (first | exact has_made_at (by simp) | refine Has.beside ?_ _))
  · repeat (first | exact Below.refl _ _ | refine Below.alloc ?_ (by simp; try omega) _)
  · intro a h
    rcases h with h | h | h
    all_goals first | (cases h; done) | (cases h; dsimp only; omega)

set_option maxRecDepth 100000 in
set_option maxHeartbeats 4000000 in
theorem kd_157 (w : World) : Calls Tryd.prog 22 #[.int .i64 157] w (KdPost2 157 w) := by
  have hk : mknown 157 = true := by kernel_rfl
  have e1 : intsI (ownI (mrow 157)) = [.int .i64 93] := by kernel_rfl
  have e2 : intsI (firstL (mrow 157).kd) = [.int .i64 0, .int .i64 1] := by kernel_rfl
  have e3 : intsI (mrow 157).mayL = [] := by kernel_rfl
  unfold KdPost2
  have HK := Lib.hid hk; have H1 := Lib.hid e1; have H2 := Lib.hid e2; have H3 := Lib.hid e3
  clear hk e1 e2 e3
  go_enter Tryd.func22, Tryd.ntmps22
  go_wp2_with (first
    | (go_at_call 52; refine (authority_any _ _ _ _ _ _ _).mono ?_; rintro e w1 ⟨rfl, rfl⟩)
    | (go_at_call 53; refine (report_any _ _ _ _ _ _ _).mono ?_; rintro e w1 ⟨rfl, rfl⟩))
  refine bodyPost_ret (results_row_tmp rfl _ _ w.heap.size 42 _ _ rfl (Has.beside (Has.beside (Has.beside (Has.made w 42 _) _) _) _) Tryd.underlying42 rfl (by kernel_rfl)) rfl ?_
  refine ⟨_, _, _, _, _, _, _, _, _, by rw [HK.out]; rfl, ⟨?_, ?_, ?_⟩, ?_, ?_⟩
  · rw [H1.out]
    first | exact sl_nil _ _ | (refine sl_has (t := 3) ?_ rfl; repeat (first | exact has_made_at (by simp) | refine Has.beside ?_ _))
  · rw [H2.out]
    first | exact sl_nil _ _ | (refine sl_has (t := 3) ?_ rfl; repeat (first | exact has_made_at (by simp) | refine Has.beside ?_ _))
  · rw [H3.out]
    first | exact sl_nil _ _ | (refine sl_has (t := 3) ?_ rfl; repeat (first | exact has_made_at (by simp) | refine Has.beside ?_ _))
  · repeat (first | exact Below.refl _ _ | refine Below.alloc ?_ (by simp; try omega) _)
  · intro a h
    rcases h with h | h | h
    all_goals first | (cases h; done) | (cases h; dsimp only; omega)

set_option maxRecDepth 100000 in
set_option maxHeartbeats 4000000 in
theorem kd_159 (w : World) : Calls Tryd.prog 22 #[.int .i64 159] w (KdPost2 159 w) := by
  have hk : mknown 159 = true := by kernel_rfl
  have e1 : intsI (ownI (mrow 159)) = [] := by kernel_rfl
  have e2 : intsI (firstL (mrow 159).kd) = [] := by kernel_rfl
  have e3 : intsI (mrow 159).mayL = [] := by kernel_rfl
  unfold KdPost2
  have HK := Lib.hid hk; have H1 := Lib.hid e1; have H2 := Lib.hid e2; have H3 := Lib.hid e3
  clear hk e1 e2 e3
  go_enter Tryd.func22, Tryd.ntmps22
  go_wp2_with (first
    | (go_at_call 52; refine (authority_any _ _ _ _ _ _ _).mono ?_; rintro e w1 ⟨rfl, rfl⟩)
    | (go_at_call 53; refine (report_any _ _ _ _ _ _ _).mono ?_; rintro e w1 ⟨rfl, rfl⟩))
  refine bodyPost_ret (results_row_tmp rfl _ _ w.heap.size 42 _ _ rfl (Has.made w 42 _) Tryd.underlying42 rfl (by kernel_rfl)) rfl ?_
  refine ⟨_, _, _, _, _, _, _, _, _, by rw [HK.out]; rfl, ⟨?_, ?_, ?_⟩, ?_, ?_⟩
  · rw [H1.out]
    first | exact sl_nil _ _ | (refine sl_has (t := 3) ?_ rfl; repeat (first | exact has_made_at (by simp) | refine Has.beside ?_ _))
  · rw [H2.out]
    first | exact sl_nil _ _ | (refine sl_has (t := 3) ?_ rfl; repeat (first | exact has_made_at (by simp) | refine Has.beside ?_ _))
  · rw [H3.out]
    first | exact sl_nil _ _ | (refine sl_has (t := 3) ?_ rfl; repeat (first | exact has_made_at (by simp) | refine Has.beside ?_ _))
  · repeat (first | exact Below.refl _ _ | refine Below.alloc ?_ (by simp; try omega) _)
  · intro a h
    rcases h with h | h | h
    all_goals first | (cases h; done) | (cases h; dsimp only; omega)

set_option maxRecDepth 100000 in
set_option maxHeartbeats 4000000 in
theorem kd_out (id : Int) (h : mknown id = false) (w : World) : Calls Tryd.prog 22 #[.int .i64 id] w (KdPost2 id w) := by
  obtain ⟨n2, n3, n8, n9, n15, n16, n18, n24, n32, n33, n34, n38, n39, n40, n41, n43, n129, n130, n132, n136, n137, n138, n146, n147, n149, n150, n155, n156, n157, n159⟩ := mout_cases h
  unfold KdPost2
  rw [mrow_out h, h]
  clear h
  go_enter Tryd.func22, Tryd.ntmps22
  go_wp2_with fail
  refine bodyPost_ret (results_row_tmp rfl _ _ w.heap.size 42 _ _ rfl (Has.made w _ _) Tryd.underlying42 rfl (by kernel_rfl)) rfl ?_
  exact ⟨none, 0, 0, none, 0, 0, none, 0, 0, rfl, ⟨sl_nil _ _, sl_nil _ _, sl_nil _ _⟩, (Below.refl _ _).alloc (Nat.le_refl _) _, fun a h => by rcases h with h | h | h <;> cases h⟩
theorem kd_any2 (id : Int) (w : World) : Calls Tryd.prog 22 #[.int .i64 id] w (KdPost2 id w) := by
  cases h : mknown id
  · exact kd_out id h w
  · rcases mknown_cases h with rfl | rfl | rfl | rfl | rfl | rfl | rfl | rfl | rfl | rfl | rfl | rfl | rfl | rfl | rfl | rfl | rfl | rfl | rfl | rfl | rfl | rfl | rfl | rfl | rfl | rfl | rfl | rfl | rfl | rfl
    · exact kd_2 w
    · exact kd_3 w
    · exact kd_8 w
    · exact kd_9 w
    · exact kd_15 w
    · exact kd_16 w
    · exact kd_18 w
    · exact kd_24 w
    · exact kd_32 w
    · exact kd_33 w
    · exact kd_34 w
    · exact kd_38 w
    · exact kd_39 w
    · exact kd_40 w
    · exact kd_41 w
    · exact kd_43 w
    · exact kd_129 w
    · exact kd_130 w
    · exact kd_132 w
    · exact kd_136 w
    · exact kd_137 w
    · exact kd_138 w
    · exact kd_146 w
    · exact kd_147 w
    · exact kd_149 w
    · exact kd_150 w
    · exact kd_155 w
    · exact kd_156 w
    · exact kd_157 w
    · exact kd_159 w
theorem kd_any (id : Int) (w : World) : Calls Tryd.prog 22 #[.int .i64 id] w (KdPost id w) :=
  (kd_any2 id w).mono fun _ _ ⟨O, no, co, F, nf, cf, P, np, cp, h1, h2, h3, _⟩ => ⟨O, no, co, F, nf, cf, P, np, cp, h1, h2, h3⟩
end Go.Proofs.YtamnhnleipnhdaaDoor
