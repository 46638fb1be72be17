/-
  package place as landed: within, stepOf, distance, position, Turn, Right; slices.Index of steps.
-/
import Derived.Test.YtfchmjldhefmkaaToB
import Derived.Test.YtfchmjldhefmkaaPlEq
import Derived.Test.YtfchmjldhefmkaaTpOwn
import Derived.Test.YtfchmjldhefmkaaPlRefA
import Derived.BigQuiet
import Derived.IntWalk
namespace Go.Proofs.Ytfchmjldhefmkaa
open Go.RowKit
open Go.Great

def distP (t : Tp3) (p : Ps3) : Int := if p.rev = true then edgeLen t p.edge - p.at_ else p.at_
def posP (t : Tp3) (s : St3) (n : Int) : Ps3 := if s.rev = true then ⟨s.edge, edgeLen t s.edge - n, true⟩ else ⟨s.edge, n, false⟩
theorem dist_ahead (t : Tp3) (p : Ps3) : distP t p = edgeLen t p.edge - aheadP t p := by
  obtain ⟨e, a, r⟩ := p
  cases r
  · show a = edgeLen t e - (edgeLen t e - a)
    omega
  · rfl
theorem pos_moved (t : Tp3) (s : St3) (n : Int) : posP t s n = movedP (beginP t s) n := by
  obtain ⟨e, r⟩ := s
  cases r
  · show (⟨e, n, false⟩ : Ps3) = ⟨e, 0 + n, false⟩
    rw [Int.zero_add]
  · rfl
theorem pos_dist (t : Tp3) (p : Ps3) (n : Int) : posP t (stepP p) (distP t p + n) = movedP p n := by
  obtain ⟨e, a, r⟩ := p
  cases r
  · rfl
  · show (⟨e, edgeLen t e - (edgeLen t e - a + n), true⟩ : Ps3) = ⟨e, a - n, true⟩
    rw [show edgeLen t e - (edgeLen t e - a + n) = a - n by omega]
theorem dist_begin (t : Tp3) (s : St3) : distP t (beginP t s) = 0 := by
  obtain ⟨e, r⟩ := s
  cases r
  · rfl
  · show edgeLen t e - edgeLen t e = 0
    omega
theorem dist_ok {t : Tp3} (ht : edgesOk t = true) {p : Ps3} (h : onB t p = true) : 0 ≤ distP t p ∧ distP t p ≤ 1000000 := by
  obtain ⟨h1, h2, h3⟩ := on_iff.1 h
  have h4 := lenAt_ok ht (s := stepP p) h1
  rw [lenAt_edge] at h4
  have h5 : edgeLen t (stepP p).edge = edgeLen t p.edge := rfl
  rw [h5] at h4
  unfold distP
  split <;> omega
theorem right_w (t : Tp3) (p : Ps3) : rightP t p = (decide (checkE t = 0) && (withinB p.edge 0 ((t.edges.length : Int) - 1) && withinB p.at_ 0 (edgeLen t p.edge))) := by
  unfold rightP onB
  rw [edgeB_within]
  rfl

set_option maxRecDepth 100000 in
set_option maxHeartbeats 8000000 in
theorem plwithin_any (n a b : Int) (w : World) :
    Calls Try.prog 25 #[.int .i64 n, .int .i64 a, .int .i64 b] w fun e w' => e = .returned (.bool (withinB n a b)) ∧ w' = w := by
  unfold withinB
  by_cases h1 : a ≤ n
  · by_cases h2 : n ≤ b
    · rw [decide_eq_true h1, decide_eq_true h2]
      go_enter Try.func25, Try.ntmps25
      go_wp2
      go_ret
      exact ⟨rfl, rfl⟩
    · rw [decide_eq_true h1, decide_eq_false h2]
      go_enter Try.func25, Try.ntmps25
      go_wp2
      go_ret
      exact ⟨rfl, rfl⟩
  · rw [decide_eq_false h1, Bool.false_and]
    go_enter Try.func25, Try.ntmps25
    go_wp2
    go_ret
    exact ⟨rfl, rfl⟩

theorem plwithin_b (n a b : Int) (w : World) : Calls Try.prog 25 #[.int .i64 n, .int .i64 a, .int .i64 b] w fun e w' => e = .returned (.bool (withinB n a b)) ∧ Below w.heap.size w w' :=
  (plwithin_any n a b w).mono fun _ _ ⟨h1, h2⟩ => ⟨h1, by rw [h2]; exact Below.refl _ _⟩

set_option maxRecDepth 100000 in
set_option maxHeartbeats 8000000 in
theorem plstep_any (p : Ps3) (w : World) :
    Calls Try.prog 26 #[.agg (psA p)] w fun e w' => e = .returned (.agg (stA13 (stepP p))) ∧ Below w.heap.size w w' := by
  obtain ⟨wa, hwa⟩ : ∃ wa, (w.alloc (.cells (psA p) 29)).alloc (.cells #[.int .i64 0, .bool false] 45) = wa := ⟨_, rfl⟩
  have hbwa : Below w.heap.size w wa := by rw [← hwa]; exact ((Below.refl _ _).alloc (Nat.le_refl _) _).alloc (by simp) _
  have h0 : Has wa (w.heap.size) 29 (psA p) := by rw [← hwa]; exact ((Has.made _ _ _).beside _)
  have h1 : Has wa (w.heap.size + 1) 45 #[.int .i64 0, .bool false] := by rw [← hwa]; exact (has_at11 (by simp))
  have HWA := Lib.hid hwa; have HBWA := Lib.hid hbwa
  have c0 : wa.cell? ⟨w.heap.size, 0, none⟩ = some (.int .i64 p.edge) := h0.cell 0
  have c2 : wa.cell? ⟨w.heap.size, 2, none⟩ = some (.bool p.rev) := h0.cell 2
  have HZ := Lib.hid h1
  clear hwa hbwa h0 h1
  obtain ⟨n, k, r⟩ := p
  unfold psA at *
  unfold stepP stA13
  dsimp only at *
  have HR := Lib.hid (has_row11 HZ.out #[.int .i64 n, .bool r])
  have HBF := Lib.hid (below_row (g := w.heap.size + 1) HBWA.out (by omega) #[.int .i64 n, .bool r])
  go_enter Try.func26, Try.ntmps26
  go_upto_region 1 with fail
  rw [HWA.out]
  clear HWA HBWA
  go_wp2_with (with_reducible refine wpList_store_rowTo (o := ⟨none, _, _, _, _, _⟩) rfl 45 _ _ rfl rfl (w.heap.size + 1) #[.int .i64 n, .bool r] rfl rfl 45 _ (HZ.out).raw11 (by kernel_rfl) (by kernel_rfl) (by kernel_rfl) ?_)
  refine bodyPost_ret (results_cell_row rfl _ _ (w.heap.size + 1) 45 _ _ _ rfl HR.out Try.underlying45 rfl (by kernel_rfl)) rfl ?_
  exact ⟨rfl, HBF.out⟩

set_option maxRecDepth 100000 in
set_option maxHeartbeats 8000000 in
theorem pldist_any (t : Tp3) (a : TpA) (p : Ps3) (w : World) (ht : TopR w t a) (hp : onB t p = true) (hok : edgesOk t = true) :
    Calls Try.prog 27 #[.agg (tpC t a), .agg (psA p)] w fun e w' => e = .returned (.int .i64 (distP t p)) ∧ Below w.heap.size w w' := by
  have HP := Lib.hid (on_iff.1 hp)
  have HA := Lib.hid (dist_ok hok hp)
  obtain ⟨wa, hwa⟩ : ∃ wa, (w.alloc (.cells (tpC t a) 27)).alloc (.cells (psA p) 29) = wa := ⟨_, rfl⟩
  have hbwa : Below w.heap.size w wa := by rw [← hwa]; exact ((Below.refl _ _).alloc (Nat.le_refl _) _).alloc (by simp) _
  have h0 : Has wa (w.heap.size) 27 (tpC t a) := by rw [← hwa]; exact ((Has.made _ _ _).beside _)
  have h1 : Has wa (w.heap.size + 1) 29 (psA p) := by rw [← hwa]; exact (has_at11 (by simp))
  have HWA := Lib.hid hwa; have HBWA := Lib.hid hbwa
  obtain ⟨e, at_, rv⟩ := p
  unfold psA at *
  unfold distP at HA ⊢
  dsimp only at *
  have c0 : wa.cell? ⟨w.heap.size, 0, none⟩ = some (.slice a.ae t.edges.length a.ce) := h0.cell 0
  have d0 : wa.cell? ⟨w.heap.size + 1, 0, none⟩ = some (.int .i64 e) := h1.cell 0
  have d1 : wa.cell? ⟨w.heap.size + 1, 1, none⟩ = some (.int .i64 at_) := h1.cell 1
  have d2 : wa.cell? ⟨w.heap.size + 1, 2, none⟩ = some (.bool rv) := h1.cell 2
  have HE1 := Lib.hid (ht.e.under hbwa)
  clear hwa hbwa h0 h1 hp ht hok
  have hpp := HP.out.1
  unfold edgeB at hpp
  simp only [Bool.and_eq_true, decide_eq_true_eq] at hpp
  obtain ⟨hp1, hp2⟩ := hpp
  obtain ⟨k, rfl⟩ : ∃ k : Nat, e = k := ⟨e.toNat, by omega⟩
  obtain ⟨be, oe, hae, ce⟩ := HE1.out.edge (show k < t.edges.length by omega)
  obtain ⟨q, hq⟩ : ∃ q, t.edges.getD k 0 = q := ⟨_, rfl⟩
  have hq2 : edgeLen t k = q := hq
  rw [hq2] at HA ⊢
  rw [hq] at ce
  rw [hae] at c0
  obtain ⟨n, hn⟩ : ∃ n, t.edges.length = n := ⟨_, rfl⟩
  rw [hn] at c0 hp2
  clear hq hq2 hae hn HE1 HP
  cases rv with
  | false =>
    go_enter Try.func27, Try.ntmps27
    go_upto_region 1 with fail
    rw [HWA.out]
    clear HWA
    go_wp2
    go_ret
    exact ⟨rfl, HBWA.out⟩
  | true =>
    have hwr1 : IntKind.i64.wrap (q - at_) = q - at_ := by have h_ := HA.out; rw [if_pos rfl] at h_; rw [IntKind.wrap_i64]; omega
    go_enter Try.func27, Try.ntmps27
    go_upto_region 1 with fail
    rw [HWA.out]
    clear HWA
    go_wp2
    go_quiet (fail)
    go_wp2
    go_ret
    exact ⟨by first | rfl | simp, by first | exact below_draws HBWA.out _ | (rw [World.drewN_drewN]; exact below_draws HBWA.out _) | exact HBWA.out⟩

set_option maxRecDepth 100000 in
set_option maxHeartbeats 8000000 in
theorem plpos_any (t : Tp3) (a : TpA) (s : St3) (n : Int) (w : World) (ht : TopR w t a) (hs : edgeB t s.edge = true) (hok : edgesOk t = true) (hn0 : 0 ≤ n) (hn : n ≤ edgeLen t s.edge) :
    Calls Try.prog 29 #[.agg (tpC t a), .agg (stA13 s), .int .i64 n] w fun e w' => e = .returned (.agg (psA (posP t s n))) ∧ Below w.heap.size w w' := by
  have HQ := Lib.hid (lenAt_ok hok hs)
  obtain ⟨wa, hwa⟩ : ∃ wa, ((w.alloc (.cells (tpC t a) 27)).alloc (.cells (stA13 s) 45)).alloc (.cells #[.int .i64 0, .int .i64 0, .bool false] 29) = wa := ⟨_, rfl⟩
  have hbwa : Below w.heap.size w wa := by rw [← hwa]; exact (((Below.refl _ _).alloc (Nat.le_refl _) _).alloc (by simp) _).alloc (by simp; omega) _
  have h0 : Has wa (w.heap.size) 27 (tpC t a) := by rw [← hwa]; exact (((Has.made _ _ _).beside _).beside _)
  have h1 : Has wa (w.heap.size + 1) 45 (stA13 s) := by rw [← hwa]; exact ((has_at11 (by simp)).beside _)
  have h2 : Has wa (w.heap.size + 1 + 1) 29 #[.int .i64 0, .int .i64 0, .bool false] := by rw [← hwa]; exact (has_at11 (by simp))
  have HWA := Lib.hid hwa; have HBWA := Lib.hid hbwa
  obtain ⟨e, rv⟩ := s
  unfold posP psA
  dsimp only at *
  have c0 : wa.cell? ⟨w.heap.size, 0, none⟩ = some (.slice a.ae t.edges.length a.ce) := h0.cell 0
  have d0 : wa.cell? ⟨w.heap.size + 1, 0, none⟩ = some (.int .i64 e) := h1.cell 0
  have d1 : wa.cell? ⟨w.heap.size + 1, 1, none⟩ = some (.bool rv) := h1.cell 1
  have HZ := Lib.hid h2
  have HE1 := Lib.hid (ht.e.under hbwa)
  clear hwa hbwa h0 h1 h2 ht hok
  unfold edgeB at hs
  simp only [Bool.and_eq_true, decide_eq_true_eq] at hs
  obtain ⟨hp1, hp2⟩ := hs
  obtain ⟨k, rfl⟩ : ∃ k : Nat, e = k := ⟨e.toNat, by omega⟩
  obtain ⟨be, oe, hae, ce⟩ := HE1.out.edge (show k < t.edges.length by omega)
  obtain ⟨q, hq⟩ : ∃ q, t.edges.getD k 0 = q := ⟨_, rfl⟩
  have hq2 : edgeLen t k = q := hq
  rw [lenAt_edge] at HQ
  dsimp only at HQ hn
  rw [hq2] at HQ hn ⊢
  rw [hq] at ce
  rw [hae] at c0
  obtain ⟨m, hm⟩ : ∃ n, t.edges.length = n := ⟨_, rfl⟩
  rw [hm] at c0 hp2
  have hwr1 : IntKind.i64.wrap (q - n) = q - n := by have h_ := HQ.out; rw [IntKind.wrap_i64]; omega
  clear hq hq2 hae hm HE1 HQ hn hn0
  cases rv with
  | false =>
    have HR := Lib.hid (has_row11 HZ.out #[.int .i64 (k : Int), .int .i64 n, .bool false])
    have HBF := Lib.hid (below_row (g := w.heap.size + 1 + 1) HBWA.out (by omega) #[.int .i64 (k : Int), .int .i64 n, .bool false])
    go_enter Try.func29, Try.ntmps29
    go_upto_region 1 with fail
    rw [HWA.out]
    clear HWA HBWA
    go_wp2_with (with_reducible refine wpList_store_rowTo (o := ⟨none, _, _, _, _, _⟩) rfl 29 _ _ rfl rfl (w.heap.size + 1 + 1) #[.int .i64 (k : Int), .int .i64 n, .bool false] rfl rfl 29 _ (HZ.out).raw11 (by kernel_rfl) (by kernel_rfl) (by kernel_rfl) ?_)
    refine bodyPost_ret (results_cell_row rfl _ _ (w.heap.size + 1 + 1) 29 _ _ _ rfl HR.out Try.underlying29 rfl (by kernel_rfl)) rfl ?_
    exact ⟨rfl, HBF.out⟩
  | true =>
    have HR := Lib.hid (has_row11 HZ.out #[.int .i64 (k : Int), .int .i64 (q - n), .bool true])
    have HBF := Lib.hid (below_row (g := w.heap.size + 1 + 1) HBWA.out (by omega) #[.int .i64 (k : Int), .int .i64 (q - n), .bool true])
    go_enter Try.func29, Try.ntmps29
    go_upto_region 1 with fail
    rw [HWA.out]
    clear HWA HBWA
    go_wp2_with (with_reducible refine wpList_store_rowTo (o := ⟨none, _, _, _, _, _⟩) rfl 29 _ _ rfl rfl (w.heap.size + 1 + 1) #[.int .i64 (k : Int), .int .i64 (q - n), .bool true] rfl rfl 29 _ (HZ.out).raw11 (by kernel_rfl) (by kernel_rfl) (by kernel_rfl) ?_)
    refine bodyPost_ret (results_cell_row rfl _ _ (w.heap.size + 1 + 1) 29 _ _ _ rfl HR.out Try.underlying29 rfl (by kernel_rfl)) rfl ?_
    exact ⟨rfl, HBF.out⟩

set_option maxRecDepth 100000 in
set_option maxHeartbeats 8000000 in
theorem opl_turn (p : Ps3) (w : World) :
    Calls Try.prog 16 #[.agg (psA p)] w fun e w' => e = .returned (.agg (psA (turnP p))) ∧ Below w.heap.size w w' := by
  obtain ⟨wa, hwa⟩ : ∃ wa, (w.alloc (.cells (psA p) 29)).alloc (.cells #[.int .i64 0, .int .i64 0, .bool false] 29) = wa := ⟨_, rfl⟩
  have hbwa : Below w.heap.size w wa := by rw [← hwa]; exact ((Below.refl _ _).alloc (Nat.le_refl _) _).alloc (by simp) _
  have h0 : Has wa (w.heap.size) 29 (psA p) := by rw [← hwa]; exact ((Has.made _ _ _).beside _)
  have h1 : Has wa (w.heap.size + 1) 29 #[.int .i64 0, .int .i64 0, .bool false] := by rw [← hwa]; exact (has_at11 (by simp))
  have HWA := Lib.hid hwa; have HBWA := Lib.hid hbwa
  have c2 : wa.cell? ⟨w.heap.size, 2, none⟩ = some (.bool p.rev) := h0.cell 2
  have t2 : wa.frozen? ⟨w.heap.size, 2, none⟩ = false := h0.thaw 2
  obtain ⟨wb, hwb⟩ : ∃ wb, wa.setCell ⟨w.heap.size, 2, none⟩ (.bool (!p.rev)) = wb := ⟨_, rfl⟩
  have hg : wa.grownBy wb (some (w.heap.size)) := by rw [← hwb]; exact only_store (only_refl _ _) rfl _
  have HP := Lib.hid (show Has wb (w.heap.size) 29 #[.int .i64 p.edge, .int .i64 p.at_, .bool (!p.rev)] from by rw [← hwb]; exact (h0.stored 2 _).is11 (by kernel_rfl))
  have HZ := Lib.hid (h1.grow hg (by simp))
  have HB := Lib.hid (below_only hbwa hg hbwa.size (Nat.le_refl _))
  have HWB := Lib.hid hwb
  clear hwa hbwa h0 h1 hwb hg HBWA
  obtain ⟨n, k, r⟩ := p
  unfold psA at *
  unfold turnP
  dsimp only at *
  have HR := Lib.hid (has_row11 HZ.out #[.int .i64 n, .int .i64 k, .bool (!r)])
  have HBF := Lib.hid (below_row (g := w.heap.size + 1) HB.out (by omega) #[.int .i64 n, .int .i64 k, .bool (!r)])
  go_enter Try.func16, Try.ntmps16
  go_upto_region 1 with fail
  rw [HWA.out]
  clear HWA
  go_upto_region 2 with fail
  rw [HWB.out]
  clear HWB c2 t2
  go_wp2_with (first | (with_reducible refine wpList_load_row (o := ⟨some 7, _, _, _, _, _⟩) rfl 29 _ rfl (w.heap.size) rfl 29 #[.int .i64 n, .int .i64 k, .bool (!r)] (0, 0) _ (HP.out).raw11 Try.underlying29 rfl (by kernel_rfl) ?_) | (with_reducible refine wpList_store_rowTo (o := ⟨none, _, _, _, _, _⟩) rfl 29 _ _ rfl rfl (w.heap.size + 1) #[.int .i64 n, .int .i64 k, .bool (!r)] rfl rfl 29 _ (HZ.out).raw11 (by kernel_rfl) (by kernel_rfl) (by kernel_rfl) ?_))
  refine bodyPost_ret (results_cell_row rfl _ _ (w.heap.size + 1) 29 _ _ _ rfl HR.out Try.underlying29 rfl (by kernel_rfl)) rfl ?_
  exact ⟨rfl, HBF.out⟩

set_option maxRecDepth 100000 in
set_option maxHeartbeats 8000000 in
theorem opl_right (t : Tp3) (a : TpA) (p : Ps3) (w : World) (ht : TopR w t a) (hlt : lightT t = true) (hcj : t.joints.length ≤ a.cj) :
    Calls Try.prog 14 #[.agg (tpC t a), .agg (psA p)] w fun e w' => e = .returned (.bool (rightP t p)) ∧ Below w.heap.size w w' := by
  obtain ⟨cE, hcE⟩ : ∃ e, checkE t = e := ⟨_, rfl⟩
  have HNN := Lib.hid (light_nums13 hlt)
  have HCK := Lib.hid (fun W (hW : Below w.heap.size w W) => otp_check t a W (ht.under hW) hlt hcj)
  rw [hcE] at HCK
  obtain ⟨wa, hwa⟩ : ∃ wa, (w.alloc (.cells (tpC t a) 27)).alloc (.cells (psA p) 29) = wa := ⟨_, rfl⟩
  have hbwa : Below w.heap.size w wa := by rw [← hwa]; exact ((Below.refl _ _).alloc (Nat.le_refl _) _).alloc (by simp) _
  have h0 : Has wa (w.heap.size) 27 (tpC t a) := by rw [← hwa]; exact ((Has.made _ _ _).beside _)
  have h1 : Has wa (w.heap.size + 1) 29 (psA p) := by rw [← hwa]; exact (has_at11 (by simp))
  have HWA := Lib.hid hwa; have HBWA := Lib.hid hbwa
  have HT := Lib.hid ht
  have HW1 := Lib.hid (fun W => plwithin_b p.edge 0 ((t.edges.length : Int) - 1) W)
  have HW2 := Lib.hid (fun W => plwithin_b p.at_ 0 (edgeLen t p.edge) W)
  have HR : Hid (rightP t p = (decide (cE = 0) && (withinB p.edge 0 ((t.edges.length : Int) - 1) && withinB p.at_ 0 (edgeLen t p.edge)))) := Lib.hid (by rw [right_w, hcE])
  obtain ⟨q, hq⟩ : ∃ x, edgeLen t p.edge = x := ⟨_, rfl⟩
  have HBX := Lib.hid (show withinB p.edge 0 ((t.edges.length : Int) - 1) = true → 0 ≤ p.edge ∧ p.edge < t.edges.length from fun h => by rw [← edgeB_within] at h; unfold edgeB at h; simpa using h)
  obtain ⟨b2, hb2⟩ : ∃ x, withinB p.edge 0 ((t.edges.length : Int) - 1) = x := ⟨_, rfl⟩
  rw [hq] at HW2 HR
  obtain ⟨b3, hb3⟩ : ∃ x, withinB p.at_ 0 q = x := ⟨_, rfl⟩
  rw [hb2] at HW1 HR HBX
  rw [hb3] at HW2 HR
  have HQ := Lib.hid hq
  have HH0 := Lib.hid h0
  have HH1 := Lib.hid h1
  clear hwa hbwa h0 h1 ht hlt hcj hcE hb2 hb3 hq
  obtain ⟨pe, pa, pr⟩ := p
  dsimp only at *
  unfold psA at *
  dsimp only at *
  have hml : t.edges.length ≤ 100 := HNN.out.1
  obtain ⟨m, hm⟩ : ∃ x, t.edges.length = x := ⟨_, rfl⟩
  rw [hm] at hml HW1
  have hwr1 : IntKind.i64.wrap ((m : Int) - 1) = (m : Int) - 1 := by rw [IntKind.wrap_i64]; omega
  have HCE0 : Hid (∀ W, Has W (w.heap.size) 27 (tpC t a) → W.cell? ⟨w.heap.size, 0, none⟩ = some (.slice a.ae m a.ce)) := Lib.hid fun W hW => by
    have c_ : W.cell? ⟨w.heap.size, 0, none⟩ = some (.slice a.ae t.edges.length a.ce) := hW.cell 0
    rw [hm] at c_
    exact c_
  have HM := Lib.hid hm
  clear hm hml
  by_cases z0 : cE = 0
  rotate_left
  · have g0 : decide (cE = 0) = false := decide_eq_false z0
    have g1 : (cE == 0) = false := by simp [z0]
    rw [g0] at HR
    go_enter Try.func14, Try.ntmps14
    go_upto_region 1 with fail
    rw [HWA.out]
    clear HWA
    refine wp_region_held_drew (S := (fun W_ => Has W_ (w.heap.size + 1) 29 #[.int .i64 pe, .int .i64 pa, .bool pr] ∧ Has W_ (w.heap.size) 27 (tpC t a) ∧ Below w.heap.size w W_)) (by kernel_rfl) ?_ (fun hHeld => ?_)
    · exact ⟨HH1.out.draw, HH0.out.draw, below_dr11 HBWA.out⟩
    refine wpAnyH_take (i := 0) (oi := ⟨some 5, _, _, _, _, _⟩) (v := .agg (tpC t a)) rfl (by kernel_rfl) (by kernel_rfl) (by kernel_rfl) (fun _ _ _ h => h) (yields_load_row11 27 _ rfl (w.heap.size) rfl 27 (tpC t a) _ (fun _ ⟨_, h_, _⟩ => h_) Try.underlying27 rfl (by kernel_rfl) (by rfl)) (by assumption) ?_
    simp only [Act.put, List.setIfInBounds_toArray, List.set_cons_zero, List.set_cons_succ]
    refine wpAnyH_ready (rs := [1]) (by kernel_rfl) (by simp) ?_
    refine AllReadyH.cons (o := ⟨some 6, _, _, _, _, _⟩) rfl (fun K hK => ?_) ?_
    · go_simp
      obtain ⟨s0, s1, s2⟩ := hHeld
      refine (HCK.out _ s2).mono ?_
      rintro e_ v1 ⟨rfl, hbs⟩
      go_wp2_with fail
      refine hK.out _ _ ?_ (fun hHeld => ?_)
      · exact ⟨s0.under hbs s0.lt, s1.under hbs s1.lt, s2.trans (hbs.mono s2.size)⟩
      clear hK K s0 s1 s2
      try simp only [Act.put, List.setIfInBounds_toArray, List.set_cons_zero, List.set_cons_succ]
      refine wpAnyH_take (i := 2) (oi := ⟨some 7, _, _, _, _, _⟩) (v := ?_) rfl (by kernel_rfl) (by kernel_rfl) (by kernel_rfl) (fun _ _ _ h => h) (Or.inl ⟨by rfl, ?_⟩) (by assumption) ?_
      rotate_left
      · intro w_ hSw; (try dsimp only at hSw); go_simp <;> with_reducible rfl
      simp only [Act.put, List.setIfInBounds_toArray, List.set_cons_zero, List.set_cons_succ]
      refine wpAnyH_take (i := 3) (oi := ⟨some 8, _, _, _, _, _⟩) (v := ?_) rfl (by kernel_rfl) (by kernel_rfl) (by kernel_rfl) (fun _ _ _ h => h) (Or.inl ⟨by rfl, ?_⟩) (by assumption) ?_
      rotate_left
      · intro w_ hSw; (try dsimp only at hSw); go_simp <;> with_reducible rfl
      simp only [Act.put, List.setIfInBounds_toArray, List.set_cons_zero, List.set_cons_succ]
      refine wpAnyH_take (i := 4) (oi := ⟨some 9, _, _, _, _, _⟩) (v := undef) rfl (by kernel_rfl) (by kernel_rfl) (by kernel_rfl) (fun _ _ _ h => h) (Or.inr ⟨by rfl, rfl⟩) (by assumption) ?_
      simp only [Act.put, List.setIfInBounds_toArray, List.set_cons_zero, List.set_cons_succ]
      refine wpAnyH_take (i := 5) (oi := ⟨some 10, _, _, _, _, _⟩) (v := undef) rfl (by kernel_rfl) (by kernel_rfl) (by kernel_rfl) (fun _ _ _ h => h) (Or.inr ⟨by rfl, rfl⟩) (by assumption) ?_
      simp only [Act.put, List.setIfInBounds_toArray, List.set_cons_zero, List.set_cons_succ]
      refine wpAnyH_take (i := 6) (oi := ⟨some 11, _, _, _, _, _⟩) (v := undef) rfl (by kernel_rfl) (by kernel_rfl) (by kernel_rfl) (fun _ _ _ h => h) (Or.inr ⟨by rfl, rfl⟩) (by assumption) ?_
      simp only [Act.put, List.setIfInBounds_toArray, List.set_cons_zero, List.set_cons_succ]
      refine wpAnyH_take (i := 7) (oi := ⟨some 12, _, _, _, _, _⟩) (v := undef) rfl (by kernel_rfl) (by kernel_rfl) (by kernel_rfl) (fun _ _ _ h => h) (Or.inr ⟨by rfl, rfl⟩) (by assumption) ?_
      simp only [Act.put, List.setIfInBounds_toArray, List.set_cons_zero, List.set_cons_succ]
      refine wpAnyH_take (i := 8) (oi := ⟨some 13, _, _, _, _, _⟩) (v := undef) rfl (by kernel_rfl) (by kernel_rfl) (by kernel_rfl) (fun _ _ _ h => h) (Or.inr ⟨by rfl, rfl⟩) (by assumption) ?_
      simp only [Act.put, List.setIfInBounds_toArray, List.set_cons_zero, List.set_cons_succ]
      refine wpAnyH_take (i := 9) (oi := ⟨some 14, _, _, _, _, _⟩) (v := undef) rfl (by kernel_rfl) (by kernel_rfl) (by kernel_rfl) (fun _ _ _ h => h) (Or.inr ⟨by rfl, rfl⟩) (by assumption) ?_
      simp only [Act.put, List.setIfInBounds_toArray, List.set_cons_zero, List.set_cons_succ]
      refine wpAnyH_take (i := 10) (oi := ⟨some 15, _, _, _, _, _⟩) (v := undef) rfl (by kernel_rfl) (by kernel_rfl) (by kernel_rfl) (fun _ _ _ h => h) (Or.inr ⟨by rfl, rfl⟩) (by assumption) ?_
      simp only [Act.put, List.setIfInBounds_toArray, List.set_cons_zero, List.set_cons_succ]
      refine wpAnyH_take (i := 11) (oi := ⟨some 16, _, _, _, _, _⟩) (v := ?_) rfl (by kernel_rfl) (by kernel_rfl) (by kernel_rfl) (fun _ _ _ h => h) (Or.inl ⟨by rfl, ?_⟩) (by assumption) ?_
      rotate_left
      · intro w_ hSw; (try dsimp only at hSw); go_simp <;> with_reducible rfl
      simp only [Act.put, List.setIfInBounds_toArray, List.set_cons_zero, List.set_cons_succ]
      refine wpAnyH_take (i := 12) (oi := ⟨some 17, _, _, _, _, _⟩) (v := ?_) rfl (by kernel_rfl) (by kernel_rfl) (by kernel_rfl) (fun _ _ _ h => h) (Or.inl ⟨by rfl, ?_⟩) (by assumption) ?_
      rotate_left
      · intro w_ hSw; (try dsimp only at hSw); go_simp <;> with_reducible rfl
      simp only [Act.put, List.setIfInBounds_toArray, List.set_cons_zero, List.set_cons_succ]
      refine wpAnyH_take (i := 13) (oi := ⟨some 18, _, _, _, _, _⟩) (v := undef) rfl (by kernel_rfl) (by kernel_rfl) (by kernel_rfl) (fun _ _ _ h => h) (Or.inr ⟨by rfl, rfl⟩) (by assumption) ?_
      simp only [Act.put, List.setIfInBounds_toArray, List.set_cons_zero, List.set_cons_succ]
      refine wpAnyH_take (i := 14) (oi := ⟨some 19, _, _, _, _, _⟩) (v := undef) rfl (by kernel_rfl) (by kernel_rfl) (by kernel_rfl) (fun _ _ _ h => h) (Or.inr ⟨by rfl, rfl⟩) (by assumption) ?_
      simp only [Act.put, List.setIfInBounds_toArray, List.set_cons_zero, List.set_cons_succ]
      refine wpAnyH_take (i := 15) (oi := ⟨some 20, _, _, _, _, _⟩) (v := undef) rfl (by kernel_rfl) (by kernel_rfl) (by kernel_rfl) (fun _ _ _ h => h) (Or.inr ⟨by rfl, rfl⟩) (by assumption) ?_
      simp only [Act.put, List.setIfInBounds_toArray, List.set_cons_zero, List.set_cons_succ]
      refine wpAnyH_take (i := 16) (oi := ⟨some 21, _, _, _, _, _⟩) (v := undef) rfl (by kernel_rfl) (by kernel_rfl) (by kernel_rfl) (fun _ _ _ h => h) (Or.inr ⟨by rfl, rfl⟩) (by assumption) ?_
      simp only [Act.put, List.setIfInBounds_toArray, List.set_cons_zero, List.set_cons_succ]
      refine wpAnyH_take (i := 17) (oi := ⟨some 22, _, _, _, _, _⟩) (v := undef) rfl (by kernel_rfl) (by kernel_rfl) (by kernel_rfl) (fun _ _ _ h => h) (Or.inr ⟨by rfl, rfl⟩) (by assumption) ?_
      simp only [Act.put, List.setIfInBounds_toArray, List.set_cons_zero, List.set_cons_succ]
      refine wpAnyH_take (i := 18) (oi := ⟨some 23, _, _, _, _, _⟩) (v := undef) rfl (by kernel_rfl) (by kernel_rfl) (by kernel_rfl) (fun _ _ _ h => h) (Or.inr ⟨by rfl, rfl⟩) (by assumption) ?_
      simp only [Act.put, List.setIfInBounds_toArray, List.set_cons_zero, List.set_cons_succ]
      refine wpAnyH_take (i := 19) (oi := ⟨some 24, _, _, _, _, _⟩) (v := undef) rfl (by kernel_rfl) (by kernel_rfl) (by kernel_rfl) (fun _ _ _ h => h) (Or.inr ⟨by rfl, rfl⟩) (by assumption) ?_
      simp only [Act.put, List.setIfInBounds_toArray, List.set_cons_zero, List.set_cons_succ]
      refine wpAnyH_take (i := 20) (oi := ⟨some 25, _, _, _, _, _⟩) (v := undef) rfl (by kernel_rfl) (by kernel_rfl) (by kernel_rfl) (fun _ _ _ h => h) (Or.inr ⟨by rfl, rfl⟩) (by assumption) ?_
      simp only [Act.put, List.setIfInBounds_toArray, List.set_cons_zero, List.set_cons_succ]
      refine wpAnyH_take (i := 21) (oi := ⟨some 26, _, _, _, _, _⟩) (v := undef) rfl (by kernel_rfl) (by kernel_rfl) (by kernel_rfl) (fun _ _ _ h => h) (Or.inr ⟨by rfl, rfl⟩) (by assumption) ?_
      simp only [Act.put, List.setIfInBounds_toArray, List.set_cons_zero, List.set_cons_succ]
      refine wpAnyH_take (i := 22) (oi := ⟨some 27, _, _, _, _, _⟩) (v := ?_) rfl (by kernel_rfl) (by kernel_rfl) (by kernel_rfl) (fun _ _ _ h => h) (Or.inl ⟨by rfl, ?_⟩) (by assumption) ?_
      rotate_left
      · intro w_ hSw; (try dsimp only at hSw); go_simp <;> with_reducible rfl
      simp only [Act.put, List.setIfInBounds_toArray, List.set_cons_zero, List.set_cons_succ]
      refine wpAnyH_take (i := 23) (oi := ⟨some 4, _, _, _, _, _⟩) (v := ?_) rfl (by kernel_rfl) (by kernel_rfl) (by kernel_rfl) (fun _ _ _ h => h) (Or.inl ⟨by rfl, ?_⟩) (by assumption) ?_
      rotate_left
      · intro w_ hSw; (try dsimp only at hSw); go_simp <;> with_reducible rfl
      simp only [Act.put, List.setIfInBounds_toArray, List.set_cons_zero, List.set_cons_succ]
      refine wpAnyH_done (by kernel_rfl) ?_ _
      have HE := Lib.hid hHeld.2.2
      clear hHeld
      go_wp2
      go_ret
      rw [HR.out]
      exact ⟨by first | rfl | simp, HE.out⟩
    exact AllReadyH.nil
  subst z0
  rw [show decide ((0 : Int) = 0) = true from rfl] at HR
  cases b2 with
  | false =>
    go_enter Try.func14, Try.ntmps14
    go_upto_region 1 with fail
    rw [HWA.out]
    clear HWA
    refine wp_region_held_drew (S := (fun W_ => Has W_ (w.heap.size + 1) 29 #[.int .i64 pe, .int .i64 pa, .bool pr] ∧ Has W_ (w.heap.size) 27 (tpC t a) ∧ Below w.heap.size w W_)) (by kernel_rfl) ?_ (fun hHeld => ?_)
    · exact ⟨HH1.out.draw, HH0.out.draw, below_dr11 HBWA.out⟩
    refine wpAnyH_take (i := 0) (oi := ⟨some 5, _, _, _, _, _⟩) (v := .agg (tpC t a)) rfl (by kernel_rfl) (by kernel_rfl) (by kernel_rfl) (fun _ _ _ h => h) (yields_load_row11 27 _ rfl (w.heap.size) rfl 27 (tpC t a) _ (fun _ ⟨_, h_, _⟩ => h_) Try.underlying27 rfl (by kernel_rfl) (by rfl)) (by assumption) ?_
    simp only [Act.put, List.setIfInBounds_toArray, List.set_cons_zero, List.set_cons_succ]
    refine wpAnyH_ready (rs := [1]) (by kernel_rfl) (by simp) ?_
    refine AllReadyH.cons (o := ⟨some 6, _, _, _, _, _⟩) rfl (fun K hK => ?_) ?_
    · go_simp
      obtain ⟨s0, s1, s2⟩ := hHeld
      refine (HCK.out _ s2).mono ?_
      rintro e_ v1 ⟨rfl, hbs⟩
      go_wp2_with fail
      refine hK.out _ _ ?_ (fun hHeld => ?_)
      · exact ⟨s0.under hbs s0.lt, s1.under hbs s1.lt, s2.trans (hbs.mono s2.size)⟩
      clear hK K s0 s1 s2
      try simp only [Act.put, List.setIfInBounds_toArray, List.set_cons_zero, List.set_cons_succ]
      refine wpAnyH_take (i := 2) (oi := ⟨some 7, _, _, _, _, _⟩) (v := ?_) rfl (by kernel_rfl) (by kernel_rfl) (by kernel_rfl) (fun _ _ _ h => h) (Or.inl ⟨by rfl, ?_⟩) (by assumption) ?_
      rotate_left
      · intro w_ hSw; (try dsimp only at hSw); go_simp <;> with_reducible rfl
      simp only [Act.put, List.setIfInBounds_toArray, List.set_cons_zero, List.set_cons_succ]
      refine wpAnyH_take (i := 3) (oi := ⟨some 8, _, _, _, _, _⟩) (v := ?_) rfl (by kernel_rfl) (by kernel_rfl) (by kernel_rfl) (fun _ _ _ h => h) (Or.inl ⟨by rfl, ?_⟩) (by assumption) ?_
      rotate_left
      · intro w_ hSw; (try dsimp only at hSw); go_simp <;> with_reducible rfl
      simp only [Act.put, List.setIfInBounds_toArray, List.set_cons_zero, List.set_cons_succ]
      refine wpAnyH_take (i := 4) (oi := ⟨some 9, _, _, _, _, _⟩) (v := ?_) rfl (by kernel_rfl) (by kernel_rfl) (by kernel_rfl) (fun _ _ _ h => h) (Or.inl ⟨by rfl, ?_⟩) (by assumption) ?_
      rotate_left
      · intro w_ hSw; (try dsimp only at hSw); go_simp <;> with_reducible rfl
      simp only [Act.put, List.setIfInBounds_toArray, List.set_cons_zero, List.set_cons_succ]
      refine wpAnyH_take (i := 5) (oi := ⟨some 10, _, _, _, _, _⟩) (v := ?_) rfl (by kernel_rfl) (by kernel_rfl) (by kernel_rfl) (fun _ _ _ h => h) (Or.inl ⟨by rfl, ?_⟩) (by assumption) ?_
      rotate_left
      · intro w_ hSw; (try dsimp only at hSw); have z0_ : w_.cell? ⟨w.heap.size + 1, 0, none⟩ = some (.int .i64 pe) := hSw.1.cell 0; go_simp <;> with_reducible rfl
      simp only [Act.put, List.setIfInBounds_toArray, List.set_cons_zero, List.set_cons_succ]
      refine wpAnyH_take (i := 6) (oi := ⟨some 11, _, _, _, _, _⟩) (v := ?_) rfl (by kernel_rfl) (by kernel_rfl) (by kernel_rfl) (fun _ _ _ h => h) (Or.inl ⟨by rfl, ?_⟩) (by assumption) ?_
      rotate_left
      · intro w_ hSw; (try dsimp only at hSw); go_simp <;> with_reducible rfl
      simp only [Act.put, List.setIfInBounds_toArray, List.set_cons_zero, List.set_cons_succ]
      refine wpAnyH_take (i := 7) (oi := ⟨some 12, _, _, _, _, _⟩) (v := ?_) rfl (by kernel_rfl) (by kernel_rfl) (by kernel_rfl) (fun _ _ _ h => h) (Or.inl ⟨by rfl, ?_⟩) (by assumption) ?_
      rotate_left
      · intro w_ hSw; (try dsimp only at hSw); have c0_ : w_.cell? ⟨w.heap.size, 0, none⟩ = some (.slice a.ae m a.ce) := HCE0.out w_ hSw.2.1; go_simp <;> with_reducible rfl
      simp only [Act.put, List.setIfInBounds_toArray, List.set_cons_zero, List.set_cons_succ]
      refine wpAnyH_take (i := 8) (oi := ⟨some 13, _, _, _, _, _⟩) (v := ?_) rfl (by kernel_rfl) (by kernel_rfl) (by kernel_rfl) (fun _ _ _ h => h) (Or.inl ⟨by rfl, ?_⟩) (by assumption) ?_
      rotate_left
      · intro w_ hSw; (try dsimp only at hSw); go_simp <;> with_reducible rfl
      simp only [Act.put, List.setIfInBounds_toArray, List.set_cons_zero, List.set_cons_succ]
      refine wpAnyH_take (i := 9) (oi := ⟨some 14, _, _, _, _, _⟩) (v := ?_) rfl (by kernel_rfl) (by kernel_rfl) (by kernel_rfl) (fun _ _ _ h => h) (Or.inl ⟨by rfl, ?_⟩) (by assumption) ?_
      rotate_left
      · intro w_ hSw; (try dsimp only at hSw); go_simp <;> with_reducible rfl
      simp only [Act.put, List.setIfInBounds_toArray, List.set_cons_zero, List.set_cons_succ]
      refine wpAnyH_ready (rs := [10]) (by kernel_rfl) (by simp) ?_
      refine AllReadyH.cons (o := ⟨some 15, _, _, _, _, _⟩) rfl (fun K hK => ?_) ?_
      · go_simp
        obtain ⟨s0, s1, s2⟩ := hHeld
        refine (HW1.out _).mono ?_
        rintro e_ v2 ⟨rfl, hbs⟩
        go_wp2_with fail
        refine hK.out _ _ ?_ (fun hHeld => ?_)
        · exact ⟨s0.under hbs s0.lt, s1.under hbs s1.lt, s2.trans (hbs.mono s2.size)⟩
        clear hK K s0 s1 s2
        try simp only [Act.put, List.setIfInBounds_toArray, List.set_cons_zero, List.set_cons_succ]
        refine wpAnyH_take (i := 11) (oi := ⟨some 16, _, _, _, _, _⟩) (v := ?_) rfl (by kernel_rfl) (by kernel_rfl) (by kernel_rfl) (fun _ _ _ h => h) (Or.inl ⟨by rfl, ?_⟩) (by assumption) ?_
        rotate_left
        · intro w_ hSw; (try dsimp only at hSw); go_simp <;> with_reducible rfl
        simp only [Act.put, List.setIfInBounds_toArray, List.set_cons_zero, List.set_cons_succ]
        refine wpAnyH_take (i := 12) (oi := ⟨some 17, _, _, _, _, _⟩) (v := ?_) rfl (by kernel_rfl) (by kernel_rfl) (by kernel_rfl) (fun _ _ _ h => h) (Or.inl ⟨by rfl, ?_⟩) (by assumption) ?_
        rotate_left
        · intro w_ hSw; (try dsimp only at hSw); go_simp <;> with_reducible rfl
        simp only [Act.put, List.setIfInBounds_toArray, List.set_cons_zero, List.set_cons_succ]
        refine wpAnyH_take (i := 13) (oi := ⟨some 18, _, _, _, _, _⟩) (v := undef) rfl (by kernel_rfl) (by kernel_rfl) (by kernel_rfl) (fun _ _ _ h => h) (Or.inr ⟨by rfl, rfl⟩) (by assumption) ?_
        simp only [Act.put, List.setIfInBounds_toArray, List.set_cons_zero, List.set_cons_succ]
        refine wpAnyH_take (i := 14) (oi := ⟨some 19, _, _, _, _, _⟩) (v := undef) rfl (by kernel_rfl) (by kernel_rfl) (by kernel_rfl) (fun _ _ _ h => h) (Or.inr ⟨by rfl, rfl⟩) (by assumption) ?_
        simp only [Act.put, List.setIfInBounds_toArray, List.set_cons_zero, List.set_cons_succ]
        refine wpAnyH_take (i := 15) (oi := ⟨some 20, _, _, _, _, _⟩) (v := undef) rfl (by kernel_rfl) (by kernel_rfl) (by kernel_rfl) (fun _ _ _ h => h) (Or.inr ⟨by rfl, rfl⟩) (by assumption) ?_
        simp only [Act.put, List.setIfInBounds_toArray, List.set_cons_zero, List.set_cons_succ]
        refine wpAnyH_take (i := 16) (oi := ⟨some 21, _, _, _, _, _⟩) (v := undef) rfl (by kernel_rfl) (by kernel_rfl) (by kernel_rfl) (fun _ _ _ h => h) (Or.inr ⟨by rfl, rfl⟩) (by assumption) ?_
        simp only [Act.put, List.setIfInBounds_toArray, List.set_cons_zero, List.set_cons_succ]
        refine wpAnyH_take (i := 17) (oi := ⟨some 22, _, _, _, _, _⟩) (v := undef) rfl (by kernel_rfl) (by kernel_rfl) (by kernel_rfl) (fun _ _ _ h => h) (Or.inr ⟨by rfl, rfl⟩) (by assumption) ?_
        simp only [Act.put, List.setIfInBounds_toArray, List.set_cons_zero, List.set_cons_succ]
        refine wpAnyH_take (i := 18) (oi := ⟨some 23, _, _, _, _, _⟩) (v := undef) rfl (by kernel_rfl) (by kernel_rfl) (by kernel_rfl) (fun _ _ _ h => h) (Or.inr ⟨by rfl, rfl⟩) (by assumption) ?_
        simp only [Act.put, List.setIfInBounds_toArray, List.set_cons_zero, List.set_cons_succ]
        refine wpAnyH_take (i := 19) (oi := ⟨some 24, _, _, _, _, _⟩) (v := undef) rfl (by kernel_rfl) (by kernel_rfl) (by kernel_rfl) (fun _ _ _ h => h) (Or.inr ⟨by rfl, rfl⟩) (by assumption) ?_
        simp only [Act.put, List.setIfInBounds_toArray, List.set_cons_zero, List.set_cons_succ]
        refine wpAnyH_take (i := 20) (oi := ⟨some 25, _, _, _, _, _⟩) (v := undef) rfl (by kernel_rfl) (by kernel_rfl) (by kernel_rfl) (fun _ _ _ h => h) (Or.inr ⟨by rfl, rfl⟩) (by assumption) ?_
        simp only [Act.put, List.setIfInBounds_toArray, List.set_cons_zero, List.set_cons_succ]
        refine wpAnyH_take (i := 21) (oi := ⟨some 26, _, _, _, _, _⟩) (v := undef) rfl (by kernel_rfl) (by kernel_rfl) (by kernel_rfl) (fun _ _ _ h => h) (Or.inr ⟨by rfl, rfl⟩) (by assumption) ?_
        simp only [Act.put, List.setIfInBounds_toArray, List.set_cons_zero, List.set_cons_succ]
        refine wpAnyH_take (i := 22) (oi := ⟨some 27, _, _, _, _, _⟩) (v := ?_) rfl (by kernel_rfl) (by kernel_rfl) (by kernel_rfl) (fun _ _ _ h => h) (Or.inl ⟨by rfl, ?_⟩) (by assumption) ?_
        rotate_left
        · intro w_ hSw; (try dsimp only at hSw); go_simp <;> with_reducible rfl
        simp only [Act.put, List.setIfInBounds_toArray, List.set_cons_zero, List.set_cons_succ]
        refine wpAnyH_take (i := 23) (oi := ⟨some 4, _, _, _, _, _⟩) (v := ?_) rfl (by kernel_rfl) (by kernel_rfl) (by kernel_rfl) (fun _ _ _ h => h) (Or.inl ⟨by rfl, ?_⟩) (by assumption) ?_
        rotate_left
        · intro w_ hSw; (try dsimp only at hSw); go_simp <;> with_reducible rfl
        simp only [Act.put, List.setIfInBounds_toArray, List.set_cons_zero, List.set_cons_succ]
        refine wpAnyH_done (by kernel_rfl) ?_ _
        have HE := Lib.hid hHeld.2.2
        clear hHeld
        go_wp2
        go_ret
        rw [HR.out]
        exact ⟨by first | rfl | simp, HE.out⟩
      exact AllReadyH.nil
    exact AllReadyH.nil
  | true =>
    have hed := HBX.out rfl
    obtain ⟨en, hen⟩ : ∃ e : Nat, pe = e := ⟨pe.toNat, by omega⟩
    have hel : en < t.edges.length := by omega
    obtain ⟨bke, oe, hae, ce⟩ := (HT.out.under HBWA.out).e.edge hel
    have hqq : t.edges.getD en 0 = q := by rw [← HQ.out, hen]; rfl
    rw [hqq] at ce
    have HCE2 : Hid (∀ W, Has W (w.heap.size) 27 (tpC t a) → W.cell? ⟨w.heap.size, 0, none⟩ = some (.slice (some ⟨bke, oe, none⟩) m a.ce)) := Lib.hid fun W hW => by rw [← hae]; exact HCE0.out W hW
    have HCQ : Hid (∀ W, Below w.heap.size w W → W.cell? ⟨bke, oe + en, none⟩ = some (.int .i64 q)) := Lib.hid fun W hW => by
      obtain ⟨b_, o_, e_, h_⟩ := (HT.out.under hW).e.edge hel
      rw [hae] at e_
      injection e_ with e_
      injection e_ with e1_ e2_ _
      subst e1_ e2_
      rw [hqq] at h_
      exact h_
    have y2 : (0 : Int) ≤ en := by omega
    have y3 : (en : Int) < m := by rw [← HM.out]; omega
    subst hen
    clear hed hel hae ce hqq HCE0 HBX HQ HM
    go_enter Try.func14, Try.ntmps14
    go_upto_region 1 with fail
    rw [HWA.out]
    clear HWA
    refine wp_region_held_drew (S := (fun W_ => Has W_ (w.heap.size + 1) 29 #[.int .i64 (en : Nat), .int .i64 pa, .bool pr] ∧ Has W_ (w.heap.size) 27 (tpC t a) ∧ Below w.heap.size w W_)) (by kernel_rfl) ?_ (fun hHeld => ?_)
    · exact ⟨HH1.out.draw, HH0.out.draw, below_dr11 HBWA.out⟩
    refine wpAnyH_take (i := 0) (oi := ⟨some 5, _, _, _, _, _⟩) (v := .agg (tpC t a)) rfl (by kernel_rfl) (by kernel_rfl) (by kernel_rfl) (fun _ _ _ h => h) (yields_load_row11 27 _ rfl (w.heap.size) rfl 27 (tpC t a) _ (fun _ ⟨_, h_, _⟩ => h_) Try.underlying27 rfl (by kernel_rfl) (by rfl)) (by assumption) ?_
    simp only [Act.put, List.setIfInBounds_toArray, List.set_cons_zero, List.set_cons_succ]
    refine wpAnyH_ready (rs := [1]) (by kernel_rfl) (by simp) ?_
    refine AllReadyH.cons (o := ⟨some 6, _, _, _, _, _⟩) rfl (fun K hK => ?_) ?_
    · go_simp
      obtain ⟨s0, s1, s2⟩ := hHeld
      refine (HCK.out _ s2).mono ?_
      rintro e_ v1 ⟨rfl, hbs⟩
      go_wp2_with fail
      refine hK.out _ _ ?_ (fun hHeld => ?_)
      · exact ⟨s0.under hbs s0.lt, s1.under hbs s1.lt, s2.trans (hbs.mono s2.size)⟩
      clear hK K s0 s1 s2
      try simp only [Act.put, List.setIfInBounds_toArray, List.set_cons_zero, List.set_cons_succ]
      refine wpAnyH_take (i := 2) (oi := ⟨some 7, _, _, _, _, _⟩) (v := ?_) rfl (by kernel_rfl) (by kernel_rfl) (by kernel_rfl) (fun _ _ _ h => h) (Or.inl ⟨by rfl, ?_⟩) (by assumption) ?_
      rotate_left
      · intro w_ hSw; (try dsimp only at hSw); go_simp <;> with_reducible rfl
      simp only [Act.put, List.setIfInBounds_toArray, List.set_cons_zero, List.set_cons_succ]
      refine wpAnyH_take (i := 3) (oi := ⟨some 8, _, _, _, _, _⟩) (v := ?_) rfl (by kernel_rfl) (by kernel_rfl) (by kernel_rfl) (fun _ _ _ h => h) (Or.inl ⟨by rfl, ?_⟩) (by assumption) ?_
      rotate_left
      · intro w_ hSw; (try dsimp only at hSw); go_simp <;> with_reducible rfl
      simp only [Act.put, List.setIfInBounds_toArray, List.set_cons_zero, List.set_cons_succ]
      refine wpAnyH_take (i := 4) (oi := ⟨some 9, _, _, _, _, _⟩) (v := ?_) rfl (by kernel_rfl) (by kernel_rfl) (by kernel_rfl) (fun _ _ _ h => h) (Or.inl ⟨by rfl, ?_⟩) (by assumption) ?_
      rotate_left
      · intro w_ hSw; (try dsimp only at hSw); go_simp <;> with_reducible rfl
      simp only [Act.put, List.setIfInBounds_toArray, List.set_cons_zero, List.set_cons_succ]
      refine wpAnyH_take (i := 5) (oi := ⟨some 10, _, _, _, _, _⟩) (v := ?_) rfl (by kernel_rfl) (by kernel_rfl) (by kernel_rfl) (fun _ _ _ h => h) (Or.inl ⟨by rfl, ?_⟩) (by assumption) ?_
      rotate_left
      · intro w_ hSw; (try dsimp only at hSw); have z0_ : w_.cell? ⟨w.heap.size + 1, 0, none⟩ = some (.int .i64 (en : Nat)) := hSw.1.cell 0; go_simp <;> with_reducible rfl
      simp only [Act.put, List.setIfInBounds_toArray, List.set_cons_zero, List.set_cons_succ]
      refine wpAnyH_take (i := 6) (oi := ⟨some 11, _, _, _, _, _⟩) (v := ?_) rfl (by kernel_rfl) (by kernel_rfl) (by kernel_rfl) (fun _ _ _ h => h) (Or.inl ⟨by rfl, ?_⟩) (by assumption) ?_
      rotate_left
      · intro w_ hSw; (try dsimp only at hSw); go_simp <;> with_reducible rfl
      simp only [Act.put, List.setIfInBounds_toArray, List.set_cons_zero, List.set_cons_succ]
      refine wpAnyH_take (i := 7) (oi := ⟨some 12, _, _, _, _, _⟩) (v := ?_) rfl (by kernel_rfl) (by kernel_rfl) (by kernel_rfl) (fun _ _ _ h => h) (Or.inl ⟨by rfl, ?_⟩) (by assumption) ?_
      rotate_left
      · intro w_ hSw; (try dsimp only at hSw); have c0_ : w_.cell? ⟨w.heap.size, 0, none⟩ = some (.slice (some ⟨bke, oe, none⟩) m a.ce) := HCE2.out w_ hSw.2.1; go_simp <;> with_reducible rfl
      simp only [Act.put, List.setIfInBounds_toArray, List.set_cons_zero, List.set_cons_succ]
      refine wpAnyH_take (i := 8) (oi := ⟨some 13, _, _, _, _, _⟩) (v := ?_) rfl (by kernel_rfl) (by kernel_rfl) (by kernel_rfl) (fun _ _ _ h => h) (Or.inl ⟨by rfl, ?_⟩) (by assumption) ?_
      rotate_left
      · intro w_ hSw; (try dsimp only at hSw); go_simp <;> with_reducible rfl
      simp only [Act.put, List.setIfInBounds_toArray, List.set_cons_zero, List.set_cons_succ]
      refine wpAnyH_take (i := 9) (oi := ⟨some 14, _, _, _, _, _⟩) (v := ?_) rfl (by kernel_rfl) (by kernel_rfl) (by kernel_rfl) (fun _ _ _ h => h) (Or.inl ⟨by rfl, ?_⟩) (by assumption) ?_
      rotate_left
      · intro w_ hSw; (try dsimp only at hSw); go_simp <;> with_reducible rfl
      simp only [Act.put, List.setIfInBounds_toArray, List.set_cons_zero, List.set_cons_succ]
      refine wpAnyH_ready (rs := [10]) (by kernel_rfl) (by simp) ?_
      refine AllReadyH.cons (o := ⟨some 15, _, _, _, _, _⟩) rfl (fun K hK => ?_) ?_
      · go_simp
        obtain ⟨s0, s1, s2⟩ := hHeld
        refine (HW1.out _).mono ?_
        rintro e_ v2 ⟨rfl, hbs⟩
        go_wp2_with fail
        refine hK.out _ _ ?_ (fun hHeld => ?_)
        · exact ⟨s0.under hbs s0.lt, s1.under hbs s1.lt, s2.trans (hbs.mono s2.size)⟩
        clear hK K s0 s1 s2
        try simp only [Act.put, List.setIfInBounds_toArray, List.set_cons_zero, List.set_cons_succ]
        refine wpAnyH_take (i := 11) (oi := ⟨some 16, _, _, _, _, _⟩) (v := ?_) rfl (by kernel_rfl) (by kernel_rfl) (by kernel_rfl) (fun _ _ _ h => h) (Or.inl ⟨by rfl, ?_⟩) (by assumption) ?_
        rotate_left
        · intro w_ hSw; (try dsimp only at hSw); go_simp <;> with_reducible rfl
        simp only [Act.put, List.setIfInBounds_toArray, List.set_cons_zero, List.set_cons_succ]
        refine wpAnyH_take (i := 12) (oi := ⟨some 17, _, _, _, _, _⟩) (v := ?_) rfl (by kernel_rfl) (by kernel_rfl) (by kernel_rfl) (fun _ _ _ h => h) (Or.inl ⟨by rfl, ?_⟩) (by assumption) ?_
        rotate_left
        · intro w_ hSw; (try dsimp only at hSw); go_simp <;> with_reducible rfl
        simp only [Act.put, List.setIfInBounds_toArray, List.set_cons_zero, List.set_cons_succ]
        refine wpAnyH_take (i := 13) (oi := ⟨some 18, _, _, _, _, _⟩) (v := ?_) rfl (by kernel_rfl) (by kernel_rfl) (by kernel_rfl) (fun _ _ _ h => h) (Or.inl ⟨by rfl, ?_⟩) (by assumption) ?_
        rotate_left
        · intro w_ hSw; (try dsimp only at hSw); go_simp <;> with_reducible rfl
        simp only [Act.put, List.setIfInBounds_toArray, List.set_cons_zero, List.set_cons_succ]
        refine wpAnyH_take (i := 14) (oi := ⟨some 19, _, _, _, _, _⟩) (v := ?_) rfl (by kernel_rfl) (by kernel_rfl) (by kernel_rfl) (fun _ _ _ h => h) (Or.inl ⟨by rfl, ?_⟩) (by assumption) ?_
        rotate_left
        · intro w_ hSw; (try dsimp only at hSw); have z1_ : w_.cell? ⟨w.heap.size + 1, 1, none⟩ = some (.int .i64 pa) := hSw.1.cell 1; go_simp <;> with_reducible rfl
        simp only [Act.put, List.setIfInBounds_toArray, List.set_cons_zero, List.set_cons_succ]
        refine wpAnyH_take (i := 15) (oi := ⟨some 20, _, _, _, _, _⟩) (v := ?_) rfl (by kernel_rfl) (by kernel_rfl) (by kernel_rfl) (fun _ _ _ h => h) (Or.inl ⟨by rfl, ?_⟩) (by assumption) ?_
        rotate_left
        · intro w_ hSw; (try dsimp only at hSw); go_simp <;> with_reducible rfl
        simp only [Act.put, List.setIfInBounds_toArray, List.set_cons_zero, List.set_cons_succ]
        refine wpAnyH_take (i := 16) (oi := ⟨some 21, _, _, _, _, _⟩) (v := ?_) rfl (by kernel_rfl) (by kernel_rfl) (by kernel_rfl) (fun _ _ _ h => h) (Or.inl ⟨by rfl, ?_⟩) (by assumption) ?_
        rotate_left
        · intro w_ hSw; (try dsimp only at hSw); have c0_ : w_.cell? ⟨w.heap.size, 0, none⟩ = some (.slice (some ⟨bke, oe, none⟩) m a.ce) := HCE2.out w_ hSw.2.1; go_simp <;> with_reducible rfl
        simp only [Act.put, List.setIfInBounds_toArray, List.set_cons_zero, List.set_cons_succ]
        refine wpAnyH_take (i := 17) (oi := ⟨some 22, _, _, _, _, _⟩) (v := ?_) rfl (by kernel_rfl) (by kernel_rfl) (by kernel_rfl) (fun _ _ _ h => h) (Or.inl ⟨by rfl, ?_⟩) (by assumption) ?_
        rotate_left
        · intro w_ hSw; (try dsimp only at hSw); go_simp <;> with_reducible rfl
        simp only [Act.put, List.setIfInBounds_toArray, List.set_cons_zero, List.set_cons_succ]
        refine wpAnyH_take (i := 18) (oi := ⟨some 23, _, _, _, _, _⟩) (v := ?_) rfl (by kernel_rfl) (by kernel_rfl) (by kernel_rfl) (fun _ _ _ h => h) (Or.inl ⟨by rfl, ?_⟩) (by assumption) ?_
        rotate_left
        · intro w_ hSw; (try dsimp only at hSw); have z0_ : w_.cell? ⟨w.heap.size + 1, 0, none⟩ = some (.int .i64 (en : Nat)) := hSw.1.cell 0; go_simp <;> with_reducible rfl
        simp only [Act.put, List.setIfInBounds_toArray, List.set_cons_zero, List.set_cons_succ]
        refine wpAnyH_take (i := 19) (oi := ⟨some 24, _, _, _, _, _⟩) (v := ?_) rfl (by kernel_rfl) (by kernel_rfl) (by kernel_rfl) (fun _ _ _ h => h) (Or.inl ⟨by rfl, ?_⟩) (by assumption) ?_
        rotate_left
        · intro w_ hSw; (try dsimp only at hSw); go_simp <;> with_reducible rfl
        simp only [Act.put, List.setIfInBounds_toArray, List.set_cons_zero, List.set_cons_succ]
        refine wpAnyH_take (i := 20) (oi := ⟨some 25, _, _, _, _, _⟩) (v := ?_) rfl (by kernel_rfl) (by kernel_rfl) (by kernel_rfl) (fun _ _ _ h => h) (Or.inl ⟨by rfl, ?_⟩) (by assumption) ?_
        rotate_left
        · intro w_ hSw; (try dsimp only at hSw); have ce_ := HCQ.out w_ hSw.2.2; go_simp <;> with_reducible rfl
        simp only [Act.put, List.setIfInBounds_toArray, List.set_cons_zero, List.set_cons_succ]
        refine wpAnyH_ready (rs := [21]) (by kernel_rfl) (by simp) ?_
        refine AllReadyH.cons (o := ⟨some 26, _, _, _, _, _⟩) rfl (fun K hK => ?_) ?_
        · go_simp
          obtain ⟨s0, s1, s2⟩ := hHeld
          refine (HW2.out _).mono ?_
          rintro e_ v3 ⟨rfl, hbs⟩
          go_wp2_with fail
          refine hK.out _ _ ?_ (fun hHeld => ?_)
          · exact ⟨s0.under hbs s0.lt, s1.under hbs s1.lt, s2.trans (hbs.mono s2.size)⟩
          clear hK K s0 s1 s2
          try simp only [Act.put, List.setIfInBounds_toArray, List.set_cons_zero, List.set_cons_succ]
          refine wpAnyH_take (i := 22) (oi := ⟨some 27, _, _, _, _, _⟩) (v := ?_) rfl (by kernel_rfl) (by kernel_rfl) (by kernel_rfl) (fun _ _ _ h => h) (Or.inl ⟨by rfl, ?_⟩) (by assumption) ?_
          rotate_left
          · intro w_ hSw; (try dsimp only at hSw); go_simp <;> with_reducible rfl
          simp only [Act.put, List.setIfInBounds_toArray, List.set_cons_zero, List.set_cons_succ]
          refine wpAnyH_take (i := 23) (oi := ⟨some 4, _, _, _, _, _⟩) (v := ?_) rfl (by kernel_rfl) (by kernel_rfl) (by kernel_rfl) (fun _ _ _ h => h) (Or.inl ⟨by rfl, ?_⟩) (by assumption) ?_
          rotate_left
          · intro w_ hSw; (try dsimp only at hSw); go_simp <;> with_reducible rfl
          simp only [Act.put, List.setIfInBounds_toArray, List.set_cons_zero, List.set_cons_succ]
          refine wpAnyH_done (by kernel_rfl) ?_ _
          have HE := Lib.hid hHeld.2.2
          clear hHeld
          go_wp2
          go_ret
          rw [HR.out]
          exact ⟨by first | rfl | simp, HE.out⟩
        exact AllReadyH.nil
      exact AllReadyH.nil
    exact AllReadyH.nil

set_option maxRecDepth 100000 in
set_option maxHeartbeats 8000000 in
theorem oixs_any (l : List St3) (v : St3) (A : Option Addr) (n c : Nat) (w : World) (hs : SlO stC 2 w A n c l) (hbig : n ≤ 1048576) :
    Calls Try.prog 38 #[.slice A n c, .agg (stA13 v)] w fun e w' => e = .returned (.int .i64 (idxL (eqS v) l)) ∧ Below w.heap.size w w' := by
  obtain ⟨wa, hwa⟩ : ∃ wa, w.alloc (.cells (stA13 v) 45) = wa := ⟨_, rfl⟩
  have hbwa : Below w.heap.size w wa := by rw [← hwa]; exact (Below.refl _ _).alloc (Nat.le_refl _) _
  have h0 : Has wa (w.heap.size) 45 (stA13 v) := by rw [← hwa]; exact (Has.made _ _ _)
  have HWA := Lib.hid hwa; have HBWA := Lib.hid hbwa
  have HN : Hid (l.length = n) := Lib.hid hs.1
  have HW := Lib.hid (hs.under hbwa)
  have c0 : wa.cell? ⟨w.heap.size, 0, none⟩ = some (.int .i64 v.edge) := h0.cell 0
  have c1 : wa.cell? ⟨w.heap.size, 1, none⟩ = some (.bool v.rev) := h0.cell 1
  have HQ := Lib.hid (fun x W => eq_st13 v x W)
  clear hs hwa hbwa h0
  have x0 : (0 : Int) ≤ n := by omega
  obtain ⟨R, hR⟩ : ∃ R, idxL (eqS v) l = R := ⟨_, rfl⟩
  have HR := Lib.hid hR
  rw [hR]
  clear hR
  unfold stA13 at *
  go_enter Try.func38, Try.ntmps38
  go_upto_region 1 with fail
  rw [HWA.out]
  clear HWA
  go_wp2
  go_loopg [8] n (fun kk s8 wl => ∃ j q : Nat, j ≤ n ∧ n - j ≤ kk ∧ s8 = .int .i64 j ∧ Hid (∀ i x, i < j → l[i]? = some x → eqS v x = false) ∧ wl = wa.drewN q)
  case atStart => exact ⟨0, 0, by omega, by omega, rfl, Lib.hid fun i x h => absurd h (by omega), rfl⟩
  case round =>
    obtain ⟨j, q, hj, hjk, rfl, HNO, rfl⟩ := hrel
    by_cases hlt : j < n
    · obtain ⟨x, hx⟩ : ∃ x, l[j]? = some x := ⟨_, List.getElem?_eq_getElem (by rw [HN.out]; omega)⟩
      obtain ⟨bk, off, rfl, d0, d1⟩ := HW.out.step hx
      have HX := Lib.hid hx
      have y0 : (0 : Int) ≤ j := by omega
      have y1 : (j : Int) < n := by omega
      have q1 := HQ.out x
      clear hx
      generalize hb : eqS v x = b at *
      have HBE := Lib.hid hb
      clear hb
      go_upto_region 4 with fail
      cases b with
      | true =>
        have HF : Hid (R = j) := Lib.hid (by rw [← HR.out]; exact idx_hit HX.out HBE.out HNO.out)
        go_quiet (fail)
        go_wp2
        go_ret
        exact ⟨by rw [HF.out]; rfl, by first | exact below_draws HBWA.out _ | (rw [World.drewN_drewN]; exact below_draws HBWA.out _)⟩
      | false =>
        have HN2 : Hid (∀ i y, i < j + 1 → l[i]? = some y → eqS v y = false) := Lib.hid fun i y hi hy => by
          by_cases h : i = j
          · subst h; rw [HX.out] at hy; cases hy; exact HBE.out
          · exact HNO.out i y (by omega) hy
        go_quiet (fail)
        go_wp2
        go_roundg (gk - 1)
        case measure => omega
        case rel => exact ⟨j + 1, _, by omega, by omega, by go_num, HN2, by first | rfl | rw [World.drewN_drewN]⟩
    · have y1 : ¬ (j : Int) < n := by omega
      have HF : Hid (R = -1) := Lib.hid (by rw [← HR.out]; exact idx_miss fun i y hi hy => HNO.out i y (by have := HN.out; omega) hy)
      go_wp2
      go_ret
      exact ⟨by rw [HF.out]; rfl, below_draws HBWA.out _⟩

end Go.Proofs.Ytfchmjldhefmkaa
