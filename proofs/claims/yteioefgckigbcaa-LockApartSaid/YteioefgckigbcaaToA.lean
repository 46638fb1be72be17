/-
  package topo as landed: within, isEdge, isEnd, connects, leaving, entering, compare.
-/
import Derived.Test.YteioefgckigbcaaTpEq

import Derived.BigQuiet

namespace Go.Proofs.Yteioefgckigbcaa

open Go.RowKit

open Go.Great

def withinB (n a b : Int) : Bool := decide (a ≤ n) && decide (n ≤ b)
theorem edgeB_within (t : Tp3) (n : Int) : edgeB t n = withinB n 0 ((t.edges.length : Int) - 1) := by
  unfold edgeB withinB
  rw [Bool.eq_iff_iff]
  simp only [Bool.and_eq_true, decide_eq_true_eq]
  omega
def connB (t : Tp3) (j : Jt3) : Bool := endB t j.a && endB t j.b
def lvS (e : Int × Int) : St3 := ⟨e.1, e.2 == 0⟩
def enS (e : Int × Int) : St3 := ⟨e.1, e.2 == 1⟩
def ltS (a b : St3) : Bool := decide (a.edge < b.edge) || ((a.edge == b.edge) && b.rev)
def cmpS (a b : St3) : Int := if eqS a b = true then 0 else if ltS a b = true then -1 else 1
def jtA (j : Jt3) : Array Value := #[.int .i64 j.a.1, .int .i64 j.a.2, .int .i64 j.b.1, .int .i64 j.b.2]

set_option maxRecDepth 100000 in
set_option maxHeartbeats 8000000 in
theorem otwithin_any (n a b : Int) (w : World) :
    Calls Try.prog 31 #[.int .i64 n, .int .i64 a, .int .i64 b] w fun e w' => e = .returned (.bool (withinB n a b)) ∧ w' = w := by
  unfold withinB
  by_cases h1 : a ≤ n
  · by_cases h2 : n ≤ b
    · rw [decide_eq_true h1, decide_eq_true h2]
      go_enter Try.func31, Try.ntmps31
      go_wp2
      go_ret
      exact ⟨rfl, rfl⟩
    · rw [decide_eq_true h1, decide_eq_false h2]
      go_enter Try.func31, Try.ntmps31
      go_wp2
      go_ret
      exact ⟨rfl, rfl⟩
  · rw [decide_eq_false h1, Bool.false_and]
    go_enter Try.func31, Try.ntmps31
    go_wp2
    go_ret
    exact ⟨rfl, rfl⟩

set_option maxRecDepth 100000 in
set_option maxHeartbeats 8000000 in
theorem otedge_any (t : Tp3) (a : TpA) (n : Int) (w : World) (hl : t.edges.length ≤ 100) :
    Calls Try.prog 53 #[.agg (tpC t a), .int .i64 n] w fun e w' => e = .returned (.bool (edgeB t n)) ∧ Below w.heap.size w w' := by
  obtain ⟨wa, hwa⟩ : ∃ wa, w.alloc (.cells (tpC t a) 27) = wa := ⟨_, rfl⟩
  have hbwa : Below w.heap.size w wa := by rw [← hwa]; exact (Below.refl _ _).alloc (Nat.le_refl _) _
  have h0 : Has wa (w.heap.size) 27 (tpC t a) := by rw [← hwa]; exact (Has.made _ _ _)
  have HWA := Lib.hid hwa; have HBWA := Lib.hid hbwa
  have c0 : wa.cell? ⟨w.heap.size, 0, none⟩ = some (.slice a.ae t.edges.length a.ce) := (h0).cell 0
  rw [edgeB_within]
  clear hwa hbwa h0
  unfold tpC at *
  generalize t.edges.length = m at *
  have H := Lib.hid (otwithin_any n 0 ((m : Int) - 1) wa)
  generalize withinB n 0 ((m : Int) - 1) = b at *
  have r1 : wrap64 ((m : Int) - 1) = (m : Int) - 1 := IntWalk.wrap64_in _ (by omega)
  go_enter Try.func53, Try.ntmps53
  go_upto_region 1 with fail
  rw [HWA.out]
  clear HWA
  go_wp2_with fail
  refine H.out.mono ?_
  rintro e w1 ⟨rfl, rfl⟩
  go_wp2
  go_ret
  exact ⟨rfl, HBWA.out⟩

set_option maxRecDepth 100000 in
set_option maxHeartbeats 8000000 in
theorem otend_any (t : Tp3) (a : TpA) (x : Int × Int) (w : World) (hl : t.edges.length ≤ 100) :
    Calls Try.prog 72 #[.agg (tpC t a), .agg (endA x)] w fun e w' => e = .returned (.bool (endB t x)) ∧ Below w.heap.size w w' := by
  obtain ⟨wa, hwa⟩ : ∃ wa, (w.alloc (.cells (tpC t a) 27)).alloc (.cells (endA x) 69) = wa := ⟨_, rfl⟩
  have hbwa : Below w.heap.size w wa := by rw [← hwa]; exact ((Below.refl _ _).alloc (Nat.le_refl _) _).alloc (by simp) _
  have h0 : Has wa (w.heap.size) 27 (tpC t a) := by rw [← hwa]; exact ((Has.made _ _ _).beside _)
  have h1 : Has wa (w.heap.size + 1) 69 (endA x) := by rw [← hwa]; exact (has_at11 (by simp))
  have HWA := Lib.hid hwa; have HBWA := Lib.hid hbwa
  have c0 : wa.cell? ⟨w.heap.size + 1, 0, none⟩ = some (.int .i64 x.1) := h1.cell 0
  have H := Lib.hid (otedge_any t a x.1 wa hl)
  have HP := Lib.hid h0
  have HC := Lib.hid (fun W (hW : Below wa.heap.size wa W) => h1.under hW h1.lt)
  have he : endB t x = (edgeB t x.1 && withinB x.2 0 1) := by
    unfold endB
    congr 1
    unfold withinB
    rw [Bool.eq_iff_iff]
    simp only [Bool.or_eq_true, Bool.and_eq_true, decide_eq_true_eq, beq_iff_eq]
    omega
  rw [he]
  clear hwa hbwa h0 h1 he hl
  generalize edgeB t x.1 = b at *
  obtain ⟨x1, x2⟩ := x
  unfold endA at *
  dsimp only at *
  have HWI := Lib.hid (fun W => otwithin_any x2 0 1 W)
  generalize withinB x2 0 1 = b2 at *
  cases b with
  | false =>
    rw [Bool.false_and]
    go_enter Try.func72, Try.ntmps72
    go_upto_region 1 with fail
    rw [HWA.out]
    clear HWA
    go_wp2_with (with_reducible refine wpList_load_row (o := ⟨some 5, _, _, _, _, _⟩) rfl 27 _ rfl (w.heap.size) rfl 27 (tpC t a) (0, 0) _ (HP.out).raw11 Try.underlying27 rfl (by kernel_rfl) ?_)
    refine H.out.mono ?_
    rintro e w1 ⟨rfl, hb1⟩
    have c1 : w1.cell? ⟨w.heap.size + 1, 1, none⟩ = some (.int .i64 x2) := (HC.out w1 hb1).cell 1
    have HB1 := Lib.hid (HBWA.out.trans (hb1.mono HBWA.out.size))
    clear hb1 HC H HP HBWA c0
    go_wp2
    go_ret
    exact ⟨by first | rfl | simp, HB1.out⟩
  | true =>
    rw [Bool.true_and]
    go_enter Try.func72, Try.ntmps72
    go_upto_region 1 with fail
    rw [HWA.out]
    clear HWA
    go_wp2_with (with_reducible refine wpList_load_row (o := ⟨some 5, _, _, _, _, _⟩) rfl 27 _ rfl (w.heap.size) rfl 27 (tpC t a) (0, 0) _ (HP.out).raw11 Try.underlying27 rfl (by kernel_rfl) ?_)
    refine H.out.mono ?_
    rintro e w1 ⟨rfl, hb1⟩
    have c1 : w1.cell? ⟨w.heap.size + 1, 1, none⟩ = some (.int .i64 x2) := (HC.out w1 hb1).cell 1
    have HB1 := Lib.hid (HBWA.out.trans (hb1.mono HBWA.out.size))
    clear hb1 HC H HP HBWA c0
    go_wp2_with fail
    refine (HWI.out _).mono ?_
    rintro e w2 ⟨rfl, rfl⟩
    go_wp2
    go_ret
    exact ⟨by first | rfl | simp, HB1.out⟩

set_option maxRecDepth 100000 in
set_option maxHeartbeats 8000000 in
theorem otconn_any (t : Tp3) (a : TpA) (j : Jt3) (w : World) (hl : t.edges.length ≤ 100) :
    Calls Try.prog 51 #[.agg (tpC t a), .agg (jtA j)] w fun e w' => e = .returned (.bool (connB t j)) ∧ Below w.heap.size w w' := by
  obtain ⟨wa, hwa⟩ : ∃ wa, (w.alloc (.cells (tpC t a) 27)).alloc (.cells (jtA j) 71) = wa := ⟨_, rfl⟩
  have hbwa : Below w.heap.size w wa := by rw [← hwa]; exact ((Below.refl _ _).alloc (Nat.le_refl _) _).alloc (by simp) _
  have h0 : Has wa (w.heap.size) 27 (tpC t a) := by rw [← hwa]; exact ((Has.made _ _ _).beside _)
  have h1 : Has wa (w.heap.size + 1) 71 (jtA j) := by rw [← hwa]; exact (has_at11 (by simp))
  have HWA := Lib.hid hwa; have HBWA := Lib.hid hbwa
  have c0 : wa.cell? ⟨w.heap.size + 1, 0, none⟩ = some (.int .i64 j.a.1) := h1.cell 0
  have c1 : wa.cell? ⟨w.heap.size + 1, 1, none⟩ = some (.int .i64 j.a.2) := h1.cell 1
  have H := Lib.hid (fun W => otend_any t a j.a W hl)
  have H2 := Lib.hid (fun W => otend_any t a j.b W hl)
  have HP := Lib.hid h0
  have HC := Lib.hid (fun W (hW : Below wa.heap.size wa W) => h1.under hW h1.lt)
  have HD := Lib.hid (fun W (hW : Below wa.heap.size wa W) => h0.under hW h0.lt)
  unfold connB
  clear hwa hbwa h0 h1 hl
  generalize endB t j.a = b at *
  generalize endB t j.b = b2 at *
  obtain ⟨⟨j1, j2⟩, ⟨j3, j4⟩⟩ := j
  unfold jtA endA at *
  dsimp only at *
  cases b with
  | false =>
    rw [Bool.false_and]
    go_enter Try.func51, Try.ntmps51
    go_upto_region 1 with fail
    rw [HWA.out]
    clear HWA
    go_wp2_with (with_reducible refine wpList_load_row (o := ⟨some 5, _, _, _, _, _⟩) rfl 27 _ rfl (w.heap.size) rfl 27 (tpC t a) (0, 0) _ (HP.out).raw11 Try.underlying27 rfl (by kernel_rfl) ?_)
    refine (H.out _).mono ?_
    rintro e w1 ⟨rfl, hb1⟩
    have d0 : w1.cell? ⟨w.heap.size + 1, 2, none⟩ = some (.int .i64 j3) := (HC.out w1 hb1).cell 2
    have d1 : w1.cell? ⟨w.heap.size + 1, 3, none⟩ = some (.int .i64 j4) := (HC.out w1 hb1).cell 3
    have HE := Lib.hid (HD.out w1 hb1)
    have HB1 := Lib.hid (HBWA.out.trans (hb1.mono HBWA.out.size))
    clear hb1 HC HD H HP HBWA c0 c1
    go_wp2
    go_ret
    exact ⟨by first | rfl | simp, HB1.out⟩
  | true =>
    rw [Bool.true_and]
    go_enter Try.func51, Try.ntmps51
    go_upto_region 1 with fail
    rw [HWA.out]
    clear HWA
    go_wp2_with (with_reducible refine wpList_load_row (o := ⟨some 5, _, _, _, _, _⟩) rfl 27 _ rfl (w.heap.size) rfl 27 (tpC t a) (0, 0) _ (HP.out).raw11 Try.underlying27 rfl (by kernel_rfl) ?_)
    refine (H.out _).mono ?_
    rintro e w1 ⟨rfl, hb1⟩
    have d0 : w1.cell? ⟨w.heap.size + 1, 2, none⟩ = some (.int .i64 j3) := (HC.out w1 hb1).cell 2
    have d1 : w1.cell? ⟨w.heap.size + 1, 3, none⟩ = some (.int .i64 j4) := (HC.out w1 hb1).cell 3
    have HE := Lib.hid (HD.out w1 hb1)
    have HB1 := Lib.hid (HBWA.out.trans (hb1.mono HBWA.out.size))
    clear hb1 HC HD H HP HBWA c0 c1
    go_wp2_with ((with_reducible refine at_slot11 10 ?_); refine wpList_load_rowW11 (o := ⟨some 10, _, _, _, _, _⟩) 27 _ rfl (by kernel_rfl) (w.heap.size) rfl 27 (tpC t a) (0, 0) _ (HE.out).raw11 Try.underlying27 rfl (by kernel_rfl) ?_)
    refine (H2.out _).mono ?_
    rintro e w2 ⟨rfl, hb2⟩
    have HB2 := Lib.hid (HB1.out.trans (hb2.mono HB1.out.size))
    clear hb2 HE d0 d1
    go_wp2
    go_ret
    exact ⟨by first | rfl | simp, HB2.out⟩

set_option maxRecDepth 100000 in
set_option maxHeartbeats 8000000 in
theorem otlv_any (x : Int × Int) (w : World) :
    Calls Try.prog 96 #[.agg (endA x)] w fun e w' => e = .returned (.agg (stA13 (lvS x))) ∧ Below w.heap.size w w' := by
  obtain ⟨wa, hwa⟩ : ∃ wa, (w.alloc (.cells (endA x) 69)).alloc (.cells #[.int .i64 0, .bool false] 75) = wa := ⟨_, rfl⟩
  have hbwa : Below w.heap.size w wa := by rw [← hwa]; exact ((Below.refl _ _).alloc (Nat.le_refl _) _).alloc (by simp) _
  have h0 : Has wa (w.heap.size) 69 (endA x) := by rw [← hwa]; exact ((Has.made _ _ _).beside _)
  have h1 : Has wa (w.heap.size + 1) 75 #[.int .i64 0, .bool false] := by rw [← hwa]; exact (has_at11 (by simp))
  have HWA := Lib.hid hwa; have HBWA := Lib.hid hbwa
  have c0 : wa.cell? ⟨w.heap.size, 0, none⟩ = some (.int .i64 x.1) := h0.cell 0
  have c1 : wa.cell? ⟨w.heap.size, 1, none⟩ = some (.int .i64 x.2) := h0.cell 1
  have HZ := Lib.hid h1
  clear hwa hbwa h0 h1
  obtain ⟨n, r⟩ := x
  unfold endA at *
  unfold stA13 lvS
  dsimp only at *
  obtain ⟨q, hq⟩ : ∃ q, (r == 0) = q := ⟨_, rfl⟩
  rw [hq]
  have HR := Lib.hid (has_row11 HZ.out #[.int .i64 n, .bool q])
  have HBF := Lib.hid (below_row (g := w.heap.size + 1) HBWA.out (by omega) #[.int .i64 n, .bool q])
  go_enter Try.func96, Try.ntmps96
  go_upto_region 1 with fail
  rw [HWA.out]
  clear HWA HBWA
  go_wp2_with (with_reducible refine wpList_store_rowTo (o := ⟨none, _, _, _, _, _⟩) rfl 75 _ _ rfl rfl (w.heap.size + 1) #[.int .i64 n, .bool q] rfl rfl 75 _ (HZ.out).raw11 (by kernel_rfl) (by kernel_rfl) (by kernel_rfl) ?_)
  refine bodyPost_ret (results_cell_row rfl _ _ (w.heap.size + 1) 75 _ _ _ rfl HR.out Try.underlying75 rfl (by kernel_rfl)) rfl ?_
  exact ⟨rfl, HBF.out⟩

set_option maxRecDepth 100000 in
set_option maxHeartbeats 8000000 in
theorem oten_any (x : Int × Int) (w : World) :
    Calls Try.prog 97 #[.agg (endA x)] w fun e w' => e = .returned (.agg (stA13 (enS x))) ∧ Below w.heap.size w w' := by
  obtain ⟨wa, hwa⟩ : ∃ wa, (w.alloc (.cells (endA x) 69)).alloc (.cells #[.int .i64 0, .bool false] 75) = wa := ⟨_, rfl⟩
  have hbwa : Below w.heap.size w wa := by rw [← hwa]; exact ((Below.refl _ _).alloc (Nat.le_refl _) _).alloc (by simp) _
  have h0 : Has wa (w.heap.size) 69 (endA x) := by rw [← hwa]; exact ((Has.made _ _ _).beside _)
  have h1 : Has wa (w.heap.size + 1) 75 #[.int .i64 0, .bool false] := by rw [← hwa]; exact (has_at11 (by simp))
  have HWA := Lib.hid hwa; have HBWA := Lib.hid hbwa
  have c0 : wa.cell? ⟨w.heap.size, 0, none⟩ = some (.int .i64 x.1) := h0.cell 0
  have c1 : wa.cell? ⟨w.heap.size, 1, none⟩ = some (.int .i64 x.2) := h0.cell 1
  have HZ := Lib.hid h1
  clear hwa hbwa h0 h1
  obtain ⟨n, r⟩ := x
  unfold endA at *
  unfold stA13 enS
  dsimp only at *
  obtain ⟨q, hq⟩ : ∃ q, (r == 1) = q := ⟨_, rfl⟩
  rw [hq]
  have HR := Lib.hid (has_row11 HZ.out #[.int .i64 n, .bool q])
  have HBF := Lib.hid (below_row (g := w.heap.size + 1) HBWA.out (by omega) #[.int .i64 n, .bool q])
  go_enter Try.func97, Try.ntmps97
  go_upto_region 1 with fail
  rw [HWA.out]
  clear HWA HBWA
  go_wp2_with (with_reducible refine wpList_store_rowTo (o := ⟨none, _, _, _, _, _⟩) rfl 75 _ _ rfl rfl (w.heap.size + 1) #[.int .i64 n, .bool q] rfl rfl 75 _ (HZ.out).raw11 (by kernel_rfl) (by kernel_rfl) (by kernel_rfl) ?_)
  refine bodyPost_ret (results_cell_row rfl _ _ (w.heap.size + 1) 75 _ _ _ rfl HR.out Try.underlying75 rfl (by kernel_rfl)) rfl ?_
  exact ⟨rfl, HBF.out⟩

end Go.Proofs.Yteioefgckigbcaa
