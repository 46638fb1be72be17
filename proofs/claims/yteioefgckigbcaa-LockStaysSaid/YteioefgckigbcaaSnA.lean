/-
  span as landed: isSpan, isNoLength, section, which are kept, compare, join.
-/
import Derived.Test.YteioefgckigbcaaSnEq

import Derived.Test.YteioefgckigbcaaSnSweep

import Derived.Test.YteioefgckigbcaaCmpI

import Derived.BigQuiet

import Derived.IntWalk

import Derived.Deep.RegionWith

import Derived.Sort.Grow

namespace Go.Proofs.Yteioefgckigbcaa

open Go.RowKit

open Go.Great

set_option maxRecDepth 100000 in
set_option maxHeartbeats 8000000 in
theorem osis_any (s : Sn3) (w : World) :
    Calls Try.prog 67 #[.agg (snA s)] w fun e w' => e = .returned (.bool (validB s)) ∧ Below w.heap.size w w' := by
  obtain ⟨wa, hwa⟩ : ∃ wa, w.alloc (.cells (snA s) 80) = wa := ⟨_, rfl⟩
  have hbwa : Below w.heap.size w wa := by rw [← hwa]; exact (Below.refl _ _).alloc (Nat.le_refl _) _
  have h0 : Has wa (w.heap.size) 80 (snA s) := by rw [← hwa]; exact (Has.made _ _ _)
  have HWA := Lib.hid hwa; have HBWA := Lib.hid hbwa
  have c0 : wa.cell? ⟨w.heap.size, 0, none⟩ = some (.int .i64 s.edge) := h0.cell 0
  have c1 : wa.cell? ⟨w.heap.size, 1, none⟩ = some (.int .i64 s.lo) := h0.cell 1
  have c2 : wa.cell? ⟨w.heap.size, 2, none⟩ = some (.int .i64 s.hi) := h0.cell 2
  unfold validB
  clear hwa hbwa h0
  obtain ⟨se, sl, sh⟩ := s
  unfold snA at *
  dsimp only at *
  by_cases y0 : 0 ≤ se
  rotate_left
  · rw [decide_eq_false y0, Bool.false_and]
    go_enter Try.func67, Try.ntmps67
    go_upto_region 1 with fail
    rw [HWA.out]
    clear HWA
    go_wp2
    go_ret
    exact ⟨by first | rfl | simp, HBWA.out⟩
  rw [decide_eq_true y0, Bool.true_and]
  by_cases y1 : 0 ≤ sl
  rotate_left
  · rw [decide_eq_false y1, Bool.false_and]
    go_enter Try.func67, Try.ntmps67
    go_upto_region 1 with fail
    rw [HWA.out]
    clear HWA
    go_wp2
    go_ret
    exact ⟨by first | rfl | simp, HBWA.out⟩
  rw [decide_eq_true y1, Bool.true_and]
  by_cases y2 : sl < sh
  rotate_left
  · rw [decide_eq_false y2, Bool.false_and]
    go_enter Try.func67, Try.ntmps67
    go_upto_region 1 with fail
    rw [HWA.out]
    clear HWA
    go_wp2
    go_ret
    exact ⟨by first | rfl | simp, HBWA.out⟩
  rw [decide_eq_true y2, Bool.true_and]
  by_cases y3 : sh ≤ 1000000
  rotate_left
  · rw [decide_eq_false y3]
    go_enter Try.func67, Try.ntmps67
    go_upto_region 1 with fail
    rw [HWA.out]
    clear HWA
    go_wp2
    go_ret
    exact ⟨by first | rfl | simp, HBWA.out⟩
  rw [decide_eq_true y3]
  go_enter Try.func67, Try.ntmps67
  go_upto_region 1 with fail
  rw [HWA.out]
  clear HWA
  go_wp2
  go_ret
  exact ⟨by first | rfl | simp, HBWA.out⟩

def noLen (n : Int) : Bool := decide (n < 1) || decide (1000000 < n)
set_option maxRecDepth 100000 in
set_option maxHeartbeats 8000000 in
theorem osnl_any (n : Int) (w : World) :
    Calls Try.prog 64 #[.int .i64 n] w fun e w' => e = .returned (.bool (noLen n)) ∧ w = w' := by
  unfold noLen
  by_cases h1 : n < 1
  · rw [decide_eq_true h1, Bool.true_or]
    go_enter Try.func64, Try.ntmps64
    go_wp2
    go_ret
    exact ⟨by first | rfl | simp, rfl⟩
  rw [decide_eq_false h1, Bool.false_or]
  by_cases h2 : 1000000 < n
  · rw [decide_eq_true h2]
    go_enter Try.func64, Try.ntmps64
    go_wp2
    go_ret
    exact ⟨by first | rfl | simp, rfl⟩
  · rw [decide_eq_false h2]
    go_enter Try.func64, Try.ntmps64
    go_wp2
    go_ret
    exact ⟨by first | rfl | simp, rfl⟩

def secN (s : St3) (n fr tz : Int) : Sn3 := if s.rev = true then ⟨s.edge, n - min tz n, n - max fr 0⟩ else ⟨s.edge, max fr 0, min tz n⟩
set_option maxRecDepth 100000 in
set_option maxHeartbeats 8000000 in
theorem ossec_any (s : St3) (n fr tz : Int) (w : World) (hn : 0 ≤ n ∧ n ≤ 1000000) (hf : -1000000000 ≤ fr ∧ fr ≤ 1000000000) (ht : -1000000000 ≤ tz ∧ tz ≤ 1000000000) :
    Calls Try.prog 65 #[.agg (stA13 s), .int .i64 n, .int .i64 fr, .int .i64 tz] w fun e w' => e = .returned (.agg (snA (secN s n fr tz))) ∧ Below w.heap.size w w' := by
  obtain ⟨wa, hwa⟩ : ∃ wa, (w.alloc (.cells (stA13 s) 75)).alloc (.cells #[.int .i64 0, .int .i64 0, .int .i64 0] 80) = wa := ⟨_, rfl⟩
  have hbwa : Below w.heap.size w wa := by rw [← hwa]; exact ((Below.refl _ _).alloc (Nat.le_refl _) _).alloc (by simp) _
  have h0 : Has wa (w.heap.size) 75 (stA13 s) := by rw [← hwa]; exact ((Has.made _ _ _).beside _)
  have h1 : Has wa (w.heap.size + 1) 80 #[.int .i64 0, .int .i64 0, .int .i64 0] := by rw [← hwa]; exact (has_at11 (by simp))
  have HWA := Lib.hid hwa; have HBWA := Lib.hid hbwa
  have c0 : wa.cell? ⟨w.heap.size, 0, none⟩ = some (.int .i64 s.edge) := h0.cell 0
  have c1 : wa.cell? ⟨w.heap.size, 1, none⟩ = some (.bool s.rev) := h0.cell 1
  have HZ := Lib.hid h1
  have hb_ := hbwa
  have HBND := Lib.hid (show 0 ≤ n ∧ n ≤ 1000000 ∧ -1000000000 ≤ fr ∧ fr ≤ 1000000000 ∧ -1000000000 ≤ tz ∧ tz ≤ 1000000000 from ⟨hn.1, hn.2, hf.1, hf.2, ht.1, ht.2⟩)
  clear hwa hbwa h0 h1 hn hf ht hb_
  obtain ⟨e, r⟩ := s
  unfold stA13 at *
  unfold secN snA
  dsimp only at *
  by_cases h1 : 0 ≤ fr
  · rw [show max fr 0 = fr by omega]
    by_cases h2 : tz ≤ n
    · rw [show min tz n = tz by omega]
      have r1 : wrap64 (n - tz) = n - tz := IntWalk.wrap64_in _ (by have := HBND.out; omega)
      have r2 : wrap64 (n - fr) = n - fr := IntWalk.wrap64_in _ (by have := HBND.out; omega)
      cases r with
      | false =>
        rw [if_neg (by decide)]
        dsimp only
        have HR := Lib.hid (has_row11 HZ.out #[.int .i64 e, .int .i64 (fr), .int .i64 (tz)])
        have HBF := Lib.hid (below_row (g := w.heap.size + 1) HBWA.out (by omega) #[.int .i64 e, .int .i64 (fr), .int .i64 (tz)])
        go_enter Try.func65, Try.ntmps65
        go_upto_region 1 with fail
        rw [HWA.out]
        clear HWA HBWA
        go_wp2_with (with_reducible refine wpList_store_rowTo (o := ⟨none, _, _, _, _, _⟩) rfl 80 _ _ rfl rfl (w.heap.size + 1) #[.int .i64 e, .int .i64 (fr), .int .i64 (tz)] rfl rfl 80 _ (HZ.out).raw11 (by kernel_rfl) (by kernel_rfl) (by kernel_rfl) ?_)
        refine bodyPost_ret (results_cell_row rfl _ _ (w.heap.size + 1) 80 _ _ _ rfl HR.out Try.underlying80 rfl (by kernel_rfl)) rfl ?_
        exact ⟨rfl, HBF.out⟩
      | true =>
        rw [if_pos rfl]
        dsimp only
        have HR := Lib.hid (has_row11 HZ.out #[.int .i64 e, .int .i64 (n - tz), .int .i64 (n - fr)])
        have HBF := Lib.hid (below_row (g := w.heap.size + 1) HBWA.out (by omega) #[.int .i64 e, .int .i64 (n - tz), .int .i64 (n - fr)])
        go_enter Try.func65, Try.ntmps65
        go_upto_region 1 with fail
        rw [HWA.out]
        clear HWA HBWA
        go_wp2_with (with_reducible refine wpList_store_rowTo (o := ⟨none, _, _, _, _, _⟩) rfl 80 _ _ rfl rfl (w.heap.size + 1) #[.int .i64 e, .int .i64 (n - tz), .int .i64 (n - fr)] rfl rfl 80 _ (HZ.out).raw11 (by kernel_rfl) (by kernel_rfl) (by kernel_rfl) ?_)
        refine bodyPost_ret (results_cell_row rfl _ _ (w.heap.size + 1) 80 _ _ _ rfl HR.out Try.underlying80 rfl (by kernel_rfl)) rfl ?_
        exact ⟨rfl, HBF.out⟩
    · have h2' : n < tz := by omega
      rw [show min tz n = n by omega]
      have r1 : wrap64 (n - n) = n - n := IntWalk.wrap64_in _ (by have := HBND.out; omega)
      have r2 : wrap64 (n - fr) = n - fr := IntWalk.wrap64_in _ (by have := HBND.out; omega)
      cases r with
      | false =>
        rw [if_neg (by decide)]
        dsimp only
        simp only [Int.sub_self] at *
        have HR := Lib.hid (has_row11 HZ.out #[.int .i64 e, .int .i64 (fr), .int .i64 (n)])
        have HBF := Lib.hid (below_row (g := w.heap.size + 1) HBWA.out (by omega) #[.int .i64 e, .int .i64 (fr), .int .i64 (n)])
        go_enter Try.func65, Try.ntmps65
        go_upto_region 1 with fail
        rw [HWA.out]
        clear HWA HBWA
        go_wp2_with (with_reducible refine wpList_store_rowTo (o := ⟨none, _, _, _, _, _⟩) rfl 80 _ _ rfl rfl (w.heap.size + 1) #[.int .i64 e, .int .i64 (fr), .int .i64 (n)] rfl rfl 80 _ (HZ.out).raw11 (by kernel_rfl) (by kernel_rfl) (by kernel_rfl) ?_)
        refine bodyPost_ret (results_cell_row rfl _ _ (w.heap.size + 1) 80 _ _ _ rfl HR.out Try.underlying80 rfl (by kernel_rfl)) rfl ?_
        exact ⟨rfl, HBF.out⟩
      | true =>
        rw [if_pos rfl]
        dsimp only
        simp only [Int.sub_self] at *
        have HR := Lib.hid (has_row11 HZ.out #[.int .i64 e, .int .i64 (0), .int .i64 (n - fr)])
        have HBF := Lib.hid (below_row (g := w.heap.size + 1) HBWA.out (by omega) #[.int .i64 e, .int .i64 (0), .int .i64 (n - fr)])
        go_enter Try.func65, Try.ntmps65
        go_upto_region 1 with fail
        rw [HWA.out]
        clear HWA HBWA
        go_wp2_with (with_reducible refine wpList_store_rowTo (o := ⟨none, _, _, _, _, _⟩) rfl 80 _ _ rfl rfl (w.heap.size + 1) #[.int .i64 e, .int .i64 (0), .int .i64 (n - fr)] rfl rfl 80 _ (HZ.out).raw11 (by kernel_rfl) (by kernel_rfl) (by kernel_rfl) ?_)
        refine bodyPost_ret (results_cell_row rfl _ _ (w.heap.size + 1) 80 _ _ _ rfl HR.out Try.underlying80 rfl (by kernel_rfl)) rfl ?_
        exact ⟨rfl, HBF.out⟩
  · have h1' : fr < 0 := by omega
    rw [show max fr 0 = 0 by omega]
    by_cases h2 : tz ≤ n
    · rw [show min tz n = tz by omega]
      have r1 : wrap64 (n - tz) = n - tz := IntWalk.wrap64_in _ (by have := HBND.out; omega)
      have r2 : wrap64 (n - 0) = n - 0 := IntWalk.wrap64_in _ (by have := HBND.out; omega)
      cases r with
      | false =>
        rw [if_neg (by decide)]
        dsimp only
        simp only [Int.sub_zero] at *
        have HR := Lib.hid (has_row11 HZ.out #[.int .i64 e, .int .i64 (0), .int .i64 (tz)])
        have HBF := Lib.hid (below_row (g := w.heap.size + 1) HBWA.out (by omega) #[.int .i64 e, .int .i64 (0), .int .i64 (tz)])
        go_enter Try.func65, Try.ntmps65
        go_upto_region 1 with fail
        rw [HWA.out]
        clear HWA HBWA
        go_wp2_with (with_reducible refine wpList_store_rowTo (o := ⟨none, _, _, _, _, _⟩) rfl 80 _ _ rfl rfl (w.heap.size + 1) #[.int .i64 e, .int .i64 (0), .int .i64 (tz)] rfl rfl 80 _ (HZ.out).raw11 (by kernel_rfl) (by kernel_rfl) (by kernel_rfl) ?_)
        refine bodyPost_ret (results_cell_row rfl _ _ (w.heap.size + 1) 80 _ _ _ rfl HR.out Try.underlying80 rfl (by kernel_rfl)) rfl ?_
        exact ⟨rfl, HBF.out⟩
      | true =>
        rw [if_pos rfl]
        dsimp only
        simp only [Int.sub_zero] at *
        have HR := Lib.hid (has_row11 HZ.out #[.int .i64 e, .int .i64 (n - tz), .int .i64 (n)])
        have HBF := Lib.hid (below_row (g := w.heap.size + 1) HBWA.out (by omega) #[.int .i64 e, .int .i64 (n - tz), .int .i64 (n)])
        go_enter Try.func65, Try.ntmps65
        go_upto_region 1 with fail
        rw [HWA.out]
        clear HWA HBWA
        go_wp2_with (with_reducible refine wpList_store_rowTo (o := ⟨none, _, _, _, _, _⟩) rfl 80 _ _ rfl rfl (w.heap.size + 1) #[.int .i64 e, .int .i64 (n - tz), .int .i64 (n)] rfl rfl 80 _ (HZ.out).raw11 (by kernel_rfl) (by kernel_rfl) (by kernel_rfl) ?_)
        refine bodyPost_ret (results_cell_row rfl _ _ (w.heap.size + 1) 80 _ _ _ rfl HR.out Try.underlying80 rfl (by kernel_rfl)) rfl ?_
        exact ⟨rfl, HBF.out⟩
    · have h2' : n < tz := by omega
      rw [show min tz n = n by omega]
      have r1 : wrap64 (n - n) = n - n := IntWalk.wrap64_in _ (by have := HBND.out; omega)
      have r2 : wrap64 (n - 0) = n - 0 := IntWalk.wrap64_in _ (by have := HBND.out; omega)
      cases r with
      | false =>
        rw [if_neg (by decide)]
        dsimp only
        simp only [Int.sub_self] at *
        simp only [Int.sub_zero] at *
        have HR := Lib.hid (has_row11 HZ.out #[.int .i64 e, .int .i64 (0), .int .i64 (n)])
        have HBF := Lib.hid (below_row (g := w.heap.size + 1) HBWA.out (by omega) #[.int .i64 e, .int .i64 (0), .int .i64 (n)])
        go_enter Try.func65, Try.ntmps65
        go_upto_region 1 with fail
        rw [HWA.out]
        clear HWA HBWA
        go_wp2_with (with_reducible refine wpList_store_rowTo (o := ⟨none, _, _, _, _, _⟩) rfl 80 _ _ rfl rfl (w.heap.size + 1) #[.int .i64 e, .int .i64 (0), .int .i64 (n)] rfl rfl 80 _ (HZ.out).raw11 (by kernel_rfl) (by kernel_rfl) (by kernel_rfl) ?_)
        refine bodyPost_ret (results_cell_row rfl _ _ (w.heap.size + 1) 80 _ _ _ rfl HR.out Try.underlying80 rfl (by kernel_rfl)) rfl ?_
        exact ⟨rfl, HBF.out⟩
      | true =>
        rw [if_pos rfl]
        dsimp only
        simp only [Int.sub_self] at *
        simp only [Int.sub_zero] at *
        have HR := Lib.hid (has_row11 HZ.out #[.int .i64 e, .int .i64 (0), .int .i64 (n)])
        have HBF := Lib.hid (below_row (g := w.heap.size + 1) HBWA.out (by omega) #[.int .i64 e, .int .i64 (0), .int .i64 (n)])
        go_enter Try.func65, Try.ntmps65
        go_upto_region 1 with fail
        rw [HWA.out]
        clear HWA HBWA
        go_wp2_with (with_reducible refine wpList_store_rowTo (o := ⟨none, _, _, _, _, _⟩) rfl 80 _ _ rfl rfl (w.heap.size + 1) #[.int .i64 e, .int .i64 (0), .int .i64 (n)] rfl rfl 80 _ (HZ.out).raw11 (by kernel_rfl) (by kernel_rfl) (by kernel_rfl) ?_)
        refine bodyPost_ret (results_cell_row rfl _ _ (w.heap.size + 1) 80 _ _ _ rfl HR.out Try.underlying80 rfl (by kernel_rfl)) rfl ?_
        exact ⟨rfl, HBF.out⟩

set_option maxRecDepth 100000 in
set_option maxHeartbeats 8000000 in
theorem oskU (x y : Bool) (w : World) :
    Calls Try.prog 66 #[.bool x, .bool y] w fun e w' => e = .returned (.bool (x || y)) ∧ w = w' := by
  cases x <;> cases y
  all_goals
    go_enter Try.func66, Try.ntmps66
    go_wp2
    go_ret
    exact ⟨rfl, rfl⟩

set_option maxRecDepth 100000 in
set_option maxHeartbeats 8000000 in
theorem oskB (x y : Bool) (w : World) :
    Calls Try.prog 38 #[.bool x, .bool y] w fun e w' => e = .returned (.bool (x && y)) ∧ w = w' := by
  cases x <;> cases y
  all_goals
    go_enter Try.func38, Try.ntmps38
    go_wp2
    go_ret
    exact ⟨rfl, rfl⟩

def bdA (d : Bd4) : Array Value := #[.int .i64 d.edge, .int .i64 d.at_, .int .i64 d.a, .int .i64 d.b]
def bdC (d : Bd4) : List Value := [.int .i64 d.edge, .int .i64 d.at_, .int .i64 d.a, .int .i64 d.b]
def cmpBd (x y : Bd4) : Int := if cmpI15 x.edge y.edge = 0 then cmpI15 x.at_ y.at_ else cmpI15 x.edge y.edge
/-- Draws, and blocks behind. -/
def GrW (w w' : World) : Prop := ∃ q os, w' = Go.Sort.grow (w.drewN q) os
theorem GrW.refl (w : World) : GrW w w := ⟨0, #[], by simp [Go.Sort.grow, World.drewN]⟩
theorem GrW.alloc {w w' : World} (h : GrW w w') (o : Obj) : GrW w (w'.alloc o) := by
  obtain ⟨q, os, rfl⟩ := h
  exact ⟨q, os ++ #[o], by rw [Go.Sort.alloc_eq_grow, Go.Sort.grow_grow]⟩
theorem GrW.drew {w w' : World} (h : GrW w w') : GrW w w'.drew := by
  obtain ⟨q, os, rfl⟩ := h
  exact ⟨q + 1, os, by rw [Go.Sort.drew_grow]; rfl⟩
set_option maxRecDepth 100000 in
set_option maxHeartbeats 8000000 in
theorem oscmp_any (x y : Bd4) (w : World) :
    Calls Try.prog 49 #[.agg (bdA x), .agg (bdA y)] w fun e w' => e = .returned (.int .i64 (cmpBd x y)) ∧ GrW w w' := by
  obtain ⟨wa, hwa⟩ : ∃ wa, (w.alloc (.cells (bdA x) 102)).alloc (.cells (bdA y) 102) = wa := ⟨_, rfl⟩
  have hbwa : Below w.heap.size w wa := by rw [← hwa]; exact ((Below.refl _ _).alloc (Nat.le_refl _) _).alloc (by simp) _
  have h0 : Has wa (w.heap.size) 102 (bdA x) := by rw [← hwa]; exact ((Has.made _ _ _).beside _)
  have h1 : Has wa (w.heap.size + 1) 102 (bdA y) := by rw [← hwa]; exact (has_at11 (by simp))
  have HWA := Lib.hid hwa; have HBWA := Lib.hid hbwa
  have HG : Hid (GrW w wa) := Lib.hid (by rw [← hwa]; exact ((GrW.refl w).alloc _).alloc _)
  have c0 : wa.cell? ⟨w.heap.size, 0, none⟩ = some (.int .i64 x.edge) := h0.cell 0
  have c1 : wa.cell? ⟨w.heap.size, 1, none⟩ = some (.int .i64 x.at_) := h0.cell 1
  have d0 : wa.cell? ⟨w.heap.size + 1, 0, none⟩ = some (.int .i64 y.edge) := h1.cell 0
  have d1 : wa.cell? ⟨w.heap.size + 1, 1, none⟩ = some (.int .i64 y.at_) := h1.cell 1
  have h0_ := h0
  have h1_ := h1
  clear hwa hbwa h0 h1 HBWA
  obtain ⟨x1, x2, x3, x4⟩ := x
  obtain ⟨y1, y2, y3, y4⟩ := y
  unfold bdA at *
  unfold cmpBd
  dsimp only at *
  have H1 := Lib.hid (fun W => ocmp15 x1 y1 W)
  have H2 := Lib.hid (fun W => ocmp15 x2 y2 W)
  generalize cmpI15 x1 y1 = p at *
  generalize cmpI15 x2 y2 = q at *
  have HO := Lib.hid (fun b W h => oor15 b p q W h)
  generalize (if p = 0 then q else p) = R at *
  go_enter Try.func49, Try.ntmps49
  go_upto_region 1 with fail
  rw [HWA.out]
  clear HWA
  have HA0 := Lib.hid h0_
  have HA1 := Lib.hid h1_
  clear c0 c1 d0 d1 h0_ h1_
  refine wp_region_held_drew (S := (fun W_ => (Has W_ (w.heap.size) 102 #[.int .i64 x1, .int .i64 x2, .int .i64 x3, .int .i64 x4]) ∧ (Has W_ (w.heap.size + 1) 102 #[.int .i64 y1, .int .i64 y2, .int .i64 y3, .int .i64 y4]) ∧ (GrW w W_))) (by kernel_rfl) ?_ (fun hHeld => ?_)
  · exact ⟨HA0.out.draw, HA1.out.draw, HG.out.drew⟩
  refine wpAnyH_take (i := 0) (oi := ⟨some 5, _, _, _, _, _⟩) (v := ?_) rfl (by kernel_rfl) (by kernel_rfl) (by kernel_rfl) (fun _ _ _ h => h) (Or.inl ⟨by rfl, ?_⟩) (by assumption) ?_
  rotate_left
  · intro w_ hSw; (try dsimp only at hSw); go_simp <;> with_reducible rfl
  simp only [Act.put, List.setIfInBounds_toArray, List.set_cons_zero, List.set_cons_succ]
  refine wpAnyH_take (i := 1) (oi := ⟨some 6, _, _, _, _, _⟩) (v := ?_) rfl (by kernel_rfl) (by kernel_rfl) (by kernel_rfl) (fun _ _ _ h => h) (Or.inl ⟨by rfl, ?_⟩) (by assumption) ?_
  rotate_left
  · intro w_ hSw; (try dsimp only at hSw); obtain ⟨s0, s1, s2⟩ := hSw; (have q_ : w_.cell? ⟨w.heap.size, 0, none⟩ = some (.int .i64 x1) := s0.cell 0); go_simp <;> with_reducible rfl
  simp only [Act.put, List.setIfInBounds_toArray, List.set_cons_zero, List.set_cons_succ]
  refine wpAnyH_take (i := 2) (oi := ⟨some 7, _, _, _, _, _⟩) (v := ?_) rfl (by kernel_rfl) (by kernel_rfl) (by kernel_rfl) (fun _ _ _ h => h) (Or.inl ⟨by rfl, ?_⟩) (by assumption) ?_
  rotate_left
  · intro w_ hSw; (try dsimp only at hSw); go_simp <;> with_reducible rfl
  simp only [Act.put, List.setIfInBounds_toArray, List.set_cons_zero, List.set_cons_succ]
  refine wpAnyH_take (i := 3) (oi := ⟨some 8, _, _, _, _, _⟩) (v := ?_) rfl (by kernel_rfl) (by kernel_rfl) (by kernel_rfl) (fun _ _ _ h => h) (Or.inl ⟨by rfl, ?_⟩) (by assumption) ?_
  rotate_left
  · intro w_ hSw; (try dsimp only at hSw); obtain ⟨s0, s1, s2⟩ := hSw; (have q_ : w_.cell? ⟨w.heap.size + 1, 0, none⟩ = some (.int .i64 y1) := s1.cell 0); go_simp <;> with_reducible rfl
  simp only [Act.put, List.setIfInBounds_toArray, List.set_cons_zero, List.set_cons_succ]
  refine wpAnyH_take (i := 5) (oi := ⟨some 10, _, _, _, _, _⟩) (v := ?_) rfl (by kernel_rfl) (by kernel_rfl) (by kernel_rfl) (fun _ _ _ h => h) (Or.inl ⟨by rfl, ?_⟩) (by assumption) ?_
  rotate_left
  · intro w_ hSw; (try dsimp only at hSw); go_simp <;> with_reducible rfl
  simp only [Act.put, List.setIfInBounds_toArray, List.set_cons_zero, List.set_cons_succ]
  refine wpAnyH_take (i := 6) (oi := ⟨some 11, _, _, _, _, _⟩) (v := ?_) rfl (by kernel_rfl) (by kernel_rfl) (by kernel_rfl) (fun _ _ _ h => h) (Or.inl ⟨by rfl, ?_⟩) (by assumption) ?_
  rotate_left
  · intro w_ hSw; (try dsimp only at hSw); obtain ⟨s0, s1, s2⟩ := hSw; (have q_ : w_.cell? ⟨w.heap.size, 1, none⟩ = some (.int .i64 x2) := s0.cell 1); go_simp <;> with_reducible rfl
  simp only [Act.put, List.setIfInBounds_toArray, List.set_cons_zero, List.set_cons_succ]
  refine wpAnyH_take (i := 7) (oi := ⟨some 12, _, _, _, _, _⟩) (v := ?_) rfl (by kernel_rfl) (by kernel_rfl) (by kernel_rfl) (fun _ _ _ h => h) (Or.inl ⟨by rfl, ?_⟩) (by assumption) ?_
  rotate_left
  · intro w_ hSw; (try dsimp only at hSw); go_simp <;> with_reducible rfl
  simp only [Act.put, List.setIfInBounds_toArray, List.set_cons_zero, List.set_cons_succ]
  refine wpAnyH_take (i := 8) (oi := ⟨some 13, _, _, _, _, _⟩) (v := ?_) rfl (by kernel_rfl) (by kernel_rfl) (by kernel_rfl) (fun _ _ _ h => h) (Or.inl ⟨by rfl, ?_⟩) (by assumption) ?_
  rotate_left
  · intro w_ hSw; (try dsimp only at hSw); obtain ⟨s0, s1, s2⟩ := hSw; (have q_ : w_.cell? ⟨w.heap.size + 1, 1, none⟩ = some (.int .i64 y2) := s1.cell 1); go_simp <;> with_reducible rfl
  simp only [Act.put, List.setIfInBounds_toArray, List.set_cons_zero, List.set_cons_succ]
  refine wpAnyH_ready (rs := [4]) (by kernel_rfl) (by simp) ?_
  refine AllReadyH.cons (o := ⟨some 9, _, _, _, _, _⟩) rfl (fun K hK => ?_) AllReadyH.nil
  go_simp
  obtain ⟨s0, s1, s2⟩ := hHeld
  refine (H1.out _).mono ?_
  rintro e_ v_ ⟨rfl, rfl⟩
  go_wp2_with fail
  refine hK.out _ _ ?_ (fun hHeld => ?_)
  · exact ⟨s0, s1, s2⟩
  clear hK K s0 s1 s2
  try simp only [Act.put, List.setIfInBounds_toArray, List.set_cons_zero, List.set_cons_succ]
  refine wpAnyH_ready (rs := [9]) (by kernel_rfl) (by simp) ?_
  refine AllReadyH.cons (o := ⟨some 14, _, _, _, _, _⟩) rfl (fun K hK => ?_) AllReadyH.nil
  go_simp
  obtain ⟨s0, s1, s2⟩ := hHeld
  refine (H2.out _).mono ?_
  rintro e_ v_ ⟨rfl, rfl⟩
  go_wp2_with fail
  refine hK.out _ _ ?_ (fun hHeld => ?_)
  · exact ⟨s0, s1, s2⟩
  clear hK K s0 s1 s2
  try simp only [Act.put, List.setIfInBounds_toArray, List.set_cons_zero, List.set_cons_succ]
  refine wpAnyH_ready (rs := [10]) (by kernel_rfl) (by simp) ?_
  refine AllReadyH.cons (o := ⟨some 15, _, _, _, _, _⟩) rfl (fun K hK => ?_) AllReadyH.nil
  go_simp
  obtain ⟨s0, s1, s2⟩ := hHeld
  obtain ⟨gb, hgb⟩ : ∃ gb, wa.heap.size = gb := ⟨_, rfl⟩
  try rw [hgb]
  refine hK.out _ _ ?_ (fun hHeld => ?_)
  · exact ⟨s0.beside _, s1.beside _, s2.alloc _⟩
  refine wpAnyH_more11 (T := (fun W_ => (Has W_ (w.heap.size) 102 #[.int .i64 x1, .int .i64 x2, .int .i64 x3, .int .i64 x4]) ∧ (Has W_ (w.heap.size + 1) 102 #[.int .i64 y1, .int .i64 y2, .int .i64 y3, .int .i64 y4]) ∧ (GrW w W_) ∧ (Has W_ gb 3 #[.int .i64 p, .int .i64 q]))) (fun _ ⟨s0, s1, s2, s3⟩ => ⟨s0, s1, s2⟩) ?_
  have hHeld2 : (fun W_ => (Has W_ (w.heap.size) 102 #[.int .i64 x1, .int .i64 x2, .int .i64 x3, .int .i64 x4]) ∧ (Has W_ (w.heap.size + 1) 102 #[.int .i64 y1, .int .i64 y2, .int .i64 y3, .int .i64 y4]) ∧ (GrW w W_) ∧ (Has W_ gb 3 #[.int .i64 p, .int .i64 q])) _ := ⟨s0.beside _, s1.beside _, s2.alloc _, (by rw [← hgb]; exact Has.made _ _ _)⟩
  clear hHeld
  have hHeld := hHeld2
  clear hHeld2
  clear hK K s0 s1 s2
  try clear hgb
  try simp only [Act.put, List.setIfInBounds_toArray, List.set_cons_zero, List.set_cons_succ]
  refine wpAnyH_ready (rs := [11]) (by kernel_rfl) (by simp) ?_
  refine AllReadyH.cons (o := ⟨some 16, _, _, _, _, _⟩) rfl (fun K hK => ?_) AllReadyH.nil
  go_simp
  obtain ⟨s0, s1, s2, s3⟩ := hHeld
  refine (HO.out _ _ s3).mono ?_
  rintro e_ v_ ⟨rfl, rfl⟩
  go_wp2_with fail
  refine hK.out _ _ ?_ (fun hHeld => ?_)
  · exact ⟨s0, s1, s2, s3⟩
  clear hK K s0 s1 s2 s3
  try simp only [Act.put, List.setIfInBounds_toArray, List.set_cons_zero, List.set_cons_succ]
  refine wpAnyH_take (i := 12) (oi := ⟨some 4, _, _, _, _, _⟩) (v := ?_) rfl (by kernel_rfl) (by kernel_rfl) (by kernel_rfl) (fun _ _ _ h => h) (Or.inl ⟨by rfl, ?_⟩) (by assumption) ?_
  rotate_left
  · intro w_ hSw; (try dsimp only at hSw); go_simp <;> with_reducible rfl
  simp only [Act.put, List.setIfInBounds_toArray, List.set_cons_zero, List.set_cons_succ]
  refine wpAnyH_done (by kernel_rfl) ?_ _
  have HF := Lib.hid hHeld.2.2.1
  clear hHeld
  go_wp2
  go_ret
  exact ⟨rfl, HF.out⟩

end Go.Proofs.Yteioefgckigbcaa
