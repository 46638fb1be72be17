/-
  linesideref14, by contract: Right, Turn, ahead, moved, begin.
-/
import Derived.Test.YtfchmjldhefmkaaTpRefE

import Derived.Test.YtfchmjldhefmkaaPlEq

import Derived.BigQuiet

import Derived.IntWalk

namespace Go.Proofs.Ytfchmjldhefmkaa

open Go.RowKit

open Go.Great

set_option maxRecDepth 100000 in
set_option maxHeartbeats 8000000 in
theorem rright_any (t : Tp3) (a : TpA) (p : Ps3) (w : World) (ht : TopR w t a) (hlt : lightT t = true) (hcj : t.joints.length ≤ a.cj) :
    Calls Try.prog 15 #[.agg (tpC t a), .agg (psA p)] w fun e w' => e = .returned (.bool (rightP t p)) ∧ Below w.heap.size w w' := by
  obtain ⟨cE, hcE⟩ : ∃ e, checkE t = e := ⟨_, rfl⟩
  have HR : Hid (rightP t p = (decide (cE = 0) && (edgeB t p.edge && (decide (0 ≤ p.at_) && decide (p.at_ ≤ edgeLen t p.edge))))) := Lib.hid (by unfold rightP onB; rw [hcE])
  have HLT := Lib.hid hlt
  have HCJ := Lib.hid hcj
  have HCE := Lib.hid hcE
  clear hlt hcj hcE
  obtain ⟨wa, hwa⟩ : ∃ wa, (w.alloc (.cells (tpC t a) 27)).alloc (.cells (psA p) 29) = wa := ⟨_, rfl⟩
  have hbwa : Below w.heap.size w wa := by rw [← hwa]; exact ((Below.refl _ _).alloc (Nat.le_refl _) _).alloc (by simp) _
  have h0 : Has wa (w.heap.size) 27 (tpC t a) := by rw [← hwa]; exact ((Has.made _ _ _).beside _)
  have h1 : Has wa (w.heap.size + 1) 29 (psA p) := by rw [← hwa]; exact (has_at11 (by simp))
  have HWA := Lib.hid hwa; have HBWA := Lib.hid hbwa
  have HT := Lib.hid (ht.under hbwa)
  have H0 := Lib.hid h0
  have HC := Lib.hid (fun W (hW : Below wa.heap.size wa W) => And.intro (h0.under hW h0.lt) (h1.under hW h1.lt))
  clear hwa hbwa h0 h1
  go_enter Try.func15, Try.ntmps15
  go_upto_region 1 with fail
  rw [HWA.out]
  clear HWA
  go_wp2_with (with_reducible refine wpList_load_row (o := ⟨some 6, _, _, _, _, _⟩) rfl 27 _ rfl (w.heap.size) rfl 27 (tpC t a) (0, 0) _ (H0.out).raw11 Try.underlying27 rfl (by kernel_rfl) ?_)
  refine (rcheck_any t a wa HT.out HLT.out HCJ.out).mono ?_
  rw [HCE.out]
  rintro e w1 ⟨rfl, hb1⟩
  have HB1 := Lib.hid (HBWA.out.trans (hb1.mono HBWA.out.size))
  have HE1 := Lib.hid (ht.e.under HB1.out)
  obtain ⟨k0, k1⟩ := HC.out w1 hb1
  clear hb1 HC H0 HT HCE HBWA ht
  obtain ⟨e, at_, rv⟩ := p
  dsimp only at *
  have c0 : w1.cell? ⟨w.heap.size, 0, none⟩ = some (.slice a.ae t.edges.length a.ce) := k0.cell 0
  have d0 : w1.cell? ⟨w.heap.size + 1, 0, none⟩ = some (.int .i64 e) := k1.cell 0
  have d1 : w1.cell? ⟨w.heap.size + 1, 1, none⟩ = some (.int .i64 at_) := k1.cell 1
  clear k0 k1
  obtain ⟨n, hn⟩ : ∃ n, t.edges.length = n := ⟨_, rfl⟩
  have HN := Lib.hid hn
  rw [hn] at c0
  clear hn
  by_cases z0 : cE = 0
  rotate_left
  · have g0 : decide (cE = 0) = false := decide_eq_false z0
    have g1 : (cE == 0) = false := by simp [z0]
    go_upto_region 2 with fail
    go_quiet (fail)
    go_wp2
    go_ret
    have hE : rightP t ⟨e, at_, rv⟩ = false := by rw [HR.out]; rw [g0]; rfl
    rw [hE]
    exact ⟨rfl, by first | exact below_draws HB1.out _ | (rw [World.drewN_drewN]; exact below_draws HB1.out _)⟩
  subst z0
  by_cases z1 : 0 ≤ e
  rotate_left
  · have g0 : decide (0 ≤ e) = false := decide_eq_false z1
    go_upto_region 2 with fail
    go_quiet (fail)
    go_wp2
    go_ret
    have hE : rightP t ⟨e, at_, rv⟩ = false := by rw [HR.out]; unfold edgeB; rw [g0]; rfl
    rw [hE]
    exact ⟨rfl, by first | exact below_draws HB1.out _ | (rw [World.drewN_drewN]; exact below_draws HB1.out _)⟩
  by_cases z2 : e < n
  rotate_left
  · have g0 : decide (e < (n : Int)) = false := decide_eq_false z2
    go_upto_region 2 with fail
    go_quiet (fail)
    go_wp2
    go_ret
    have hE : rightP t ⟨e, at_, rv⟩ = false := by rw [HR.out]; unfold edgeB; rw [HN.out, g0]; simp
    rw [hE]
    exact ⟨rfl, by first | exact below_draws HB1.out _ | (rw [World.drewN_drewN]; exact below_draws HB1.out _)⟩
  have HEB := Lib.hid (show edgeB t e = true from by unfold edgeB; rw [HN.out]; simp; omega)
  by_cases z3 : 0 ≤ at_
  rotate_left
  · have g0 : decide (0 ≤ at_) = false := decide_eq_false z3
    go_upto_region 2 with fail
    go_quiet (fail)
    go_wp2
    go_ret
    have hE : rightP t ⟨e, at_, rv⟩ = false := by rw [HR.out]; rw [g0, HEB.out]; rfl
    rw [hE]
    exact ⟨rfl, by first | exact below_draws HB1.out _ | (rw [World.drewN_drewN]; exact below_draws HB1.out _)⟩
  obtain ⟨k, rfl⟩ : ∃ k : Nat, e = k := ⟨e.toNat, by omega⟩
  obtain ⟨be, oe, hae, ce⟩ := HE1.out.edge (show k < t.edges.length by rw [HN.out]; omega)
  obtain ⟨q, hq⟩ : ∃ q, t.edges.getD k 0 = q := ⟨_, rfl⟩
  have HQ := Lib.hid (show edgeLen t k = q from hq)
  rw [hq] at ce
  rw [hae] at c0
  clear hq hae
  by_cases z4 : at_ ≤ q
  · have g0 : decide (at_ ≤ q) = true := decide_eq_true z4
    go_upto_region 2 with fail
    go_quiet (fail)
    go_wp2
    go_ret
    have hE : rightP t ⟨(k : Int), at_, rv⟩ = true := by rw [HR.out]; rw [HQ.out, HEB.out, g0, decide_eq_true z3]; rfl
    rw [hE]
    exact ⟨rfl, by first | exact below_draws HB1.out _ | (rw [World.drewN_drewN]; exact below_draws HB1.out _)⟩
  have g0 : decide (at_ ≤ q) = false := decide_eq_false z4
  go_upto_region 2 with fail
  go_quiet (fail)
  go_wp2
  go_ret
  have hE : rightP t ⟨(k : Int), at_, rv⟩ = false := by rw [HR.out]; rw [HQ.out, HEB.out, g0, decide_eq_true z3]; rfl
  rw [hE]
  exact ⟨rfl, by first | exact below_draws HB1.out _ | (rw [World.drewN_drewN]; exact below_draws HB1.out _)⟩

set_option maxRecDepth 100000 in
set_option maxHeartbeats 8000000 in
theorem rturn_any (p : Ps3) (w : World) :
    Calls Try.prog 17 #[.agg (psA p)] w fun e w' => e = .returned (.agg (psA (turnP p))) ∧ Below w.heap.size w w' := by
  obtain ⟨wa, hwa⟩ : ∃ wa, (w.alloc (.cells (psA p) 29)).alloc (.cells #[.int .i64 0, .int .i64 0, .bool false] 29) = wa := ⟨_, rfl⟩
  have hbwa : Below w.heap.size w wa := by rw [← hwa]; exact ((Below.refl _ _).alloc (Nat.le_refl _) _).alloc (by simp) _
  have h0 : Has wa (w.heap.size) 29 (psA p) := by rw [← hwa]; exact ((Has.made _ _ _).beside _)
  have h1 : Has wa (w.heap.size + 1) 29 #[.int .i64 0, .int .i64 0, .bool false] := by rw [← hwa]; exact (has_at11 (by simp))
  have HWA := Lib.hid hwa; have HBWA := Lib.hid hbwa
  have c0 : wa.cell? ⟨w.heap.size, 0, none⟩ = some (.int .i64 p.edge) := h0.cell 0
  have c1 : wa.cell? ⟨w.heap.size, 1, none⟩ = some (.int .i64 p.at_) := h0.cell 1
  have c2 : wa.cell? ⟨w.heap.size, 2, none⟩ = some (.bool p.rev) := h0.cell 2
  have HZ := Lib.hid h1
  clear hwa hbwa h0 h1
  obtain ⟨n, k, r⟩ := p
  unfold psA at *
  unfold turnP
  dsimp only at *
  have HR := Lib.hid (has_row11 HZ.out #[.int .i64 n, .int .i64 k, .bool (!r)])
  have HBF := Lib.hid (below_row (g := w.heap.size + 1) HBWA.out (by omega) #[.int .i64 n, .int .i64 k, .bool (!r)])
  go_enter Try.func17, Try.ntmps17
  go_upto_region 1 with fail
  rw [HWA.out]
  clear HWA HBWA
  go_wp2_with (with_reducible refine wpList_store_rowTo (o := ⟨none, _, _, _, _, _⟩) rfl 29 _ _ rfl rfl (w.heap.size + 1) #[.int .i64 n, .int .i64 k, .bool (!r)] rfl rfl 29 _ (HZ.out).raw11 (by kernel_rfl) (by kernel_rfl) (by kernel_rfl) ?_)
  refine bodyPost_ret (results_cell_row rfl _ _ (w.heap.size + 1) 29 _ _ _ rfl HR.out Try.underlying29 rfl (by kernel_rfl)) rfl ?_
  exact ⟨rfl, HBF.out⟩

set_option maxRecDepth 100000 in
set_option maxHeartbeats 8000000 in
theorem rahead_any (t : Tp3) (a : TpA) (p : Ps3) (w : World) (ht : TopR w t a) (hp : onB t p = true) (hok : edgesOk t = true) :
    Calls Try.prog 30 #[.agg (tpC t a), .agg (psA p)] w fun e w' => e = .returned (.int .i64 (aheadP t p)) ∧ Below w.heap.size w w' := by
  have HP := Lib.hid (on_iff.1 hp)
  have HA := Lib.hid (ahead_ok hok hp)
  obtain ⟨wa, hwa⟩ : ∃ wa, (w.alloc (.cells (tpC t a) 27)).alloc (.cells (psA p) 29) = wa := ⟨_, rfl⟩
  have hbwa : Below w.heap.size w wa := by rw [← hwa]; exact ((Below.refl _ _).alloc (Nat.le_refl _) _).alloc (by simp) _
  have h0 : Has wa (w.heap.size) 27 (tpC t a) := by rw [← hwa]; exact ((Has.made _ _ _).beside _)
  have h1 : Has wa (w.heap.size + 1) 29 (psA p) := by rw [← hwa]; exact (has_at11 (by simp))
  have HWA := Lib.hid hwa; have HBWA := Lib.hid hbwa
  obtain ⟨e, at_, rv⟩ := p
  unfold psA at *
  unfold aheadP at HA ⊢
  dsimp only at *
  have c0 : wa.cell? ⟨w.heap.size, 0, none⟩ = some (.slice a.ae t.edges.length a.ce) := h0.cell 0
  have d0 : wa.cell? ⟨w.heap.size + 1, 0, none⟩ = some (.int .i64 e) := h1.cell 0
  have d1 : wa.cell? ⟨w.heap.size + 1, 1, none⟩ = some (.int .i64 at_) := h1.cell 1
  have d2 : wa.cell? ⟨w.heap.size + 1, 2, none⟩ = some (.bool rv) := h1.cell 2
  have HE1 := Lib.hid (ht.e.under hbwa)
  clear hwa hbwa h0 h1 hp ht hok
  have hpp := HP.out.1
  unfold edgeB at hpp
  simp only [Bool.and_eq_true, decide_eq_true_eq] at hpp
  obtain ⟨hp1, hp2⟩ := hpp
  obtain ⟨k, rfl⟩ : ∃ k : Nat, e = k := ⟨e.toNat, by omega⟩
  obtain ⟨be, oe, hae, ce⟩ := HE1.out.edge (show k < t.edges.length by omega)
  obtain ⟨q, hq⟩ : ∃ q, t.edges.getD k 0 = q := ⟨_, rfl⟩
  have hq2 : edgeLen t k = q := hq
  rw [hq2] at HA ⊢
  rw [hq] at ce
  rw [hae] at c0
  obtain ⟨n, hn⟩ : ∃ n, t.edges.length = n := ⟨_, rfl⟩
  rw [hn] at c0 hp2
  clear hq hq2 hae hn HE1 HP
  cases rv with
  | true =>
    go_enter Try.func30, Try.ntmps30
    go_upto_region 1 with fail
    rw [HWA.out]
    clear HWA
    go_wp2
    go_ret
    exact ⟨rfl, HBWA.out⟩
  | false =>
    have hwr1 : IntKind.i64.wrap (q - at_) = q - at_ := by have h_ := HA.out; rw [if_neg (by decide)] at h_; rw [IntKind.wrap_i64]; omega
    go_enter Try.func30, Try.ntmps30
    go_upto_region 1 with fail
    rw [HWA.out]
    clear HWA
    go_wp2
    go_quiet (fail)
    go_wp2
    go_ret
    exact ⟨by first | rfl | simp, by first | exact below_draws HBWA.out _ | (rw [World.drewN_drewN]; exact below_draws HBWA.out _) | exact HBWA.out⟩

set_option maxRecDepth 100000 in
set_option maxHeartbeats 8000000 in
theorem rmoved_any (p : Ps3) (n : Int) (w : World) (h0n : 0 ≤ n) (hn : n ≤ 1000000) (h0p : 0 ≤ p.at_) (hp : p.at_ ≤ 1000000) :
    Calls Try.prog 33 #[.agg (psA p), .int .i64 n] w fun e w' => e = .returned (.agg (psA (movedP p n))) ∧ Below w.heap.size w w' := by
  obtain ⟨wa, hwa⟩ : ∃ wa, (w.alloc (.cells (psA p) 29)).alloc (.cells #[.int .i64 0, .int .i64 0, .bool false] 29) = wa := ⟨_, rfl⟩
  have hbwa : Below w.heap.size w wa := by rw [← hwa]; exact ((Below.refl _ _).alloc (Nat.le_refl _) _).alloc (by simp) _
  have h0 : Has wa (w.heap.size) 29 (psA p) := by rw [← hwa]; exact ((Has.made _ _ _).beside _)
  have h1 : Has wa (w.heap.size + 1) 29 #[.int .i64 0, .int .i64 0, .bool false] := by rw [← hwa]; exact (has_at11 (by simp))
  have HWA := Lib.hid hwa; have HBWA := Lib.hid hbwa
  have c0 : wa.cell? ⟨w.heap.size, 0, none⟩ = some (.int .i64 p.edge) := h0.cell 0
  have c1 : wa.cell? ⟨w.heap.size, 1, none⟩ = some (.int .i64 p.at_) := h0.cell 1
  have c2 : wa.cell? ⟨w.heap.size, 2, none⟩ = some (.bool p.rev) := h0.cell 2
  have HZ := Lib.hid h1
  clear hwa hbwa h0 h1
  obtain ⟨e, k, r⟩ := p
  unfold psA at *
  unfold movedP
  dsimp only at *
  have hw1 : IntKind.i64.wrap (k - n) = k - n := by rw [IntKind.wrap_i64]; omega
  have hw2 : IntKind.i64.wrap (k + n) = k + n := by rw [IntKind.wrap_i64]; omega
  clear h0n hn h0p hp
  cases r with
  | true =>
    have HR := Lib.hid (has_row11 HZ.out #[.int .i64 e, .int .i64 (k - n), .bool true])
    have HBF := Lib.hid (below_row (g := w.heap.size + 1) HBWA.out (by omega) #[.int .i64 e, .int .i64 (k - n), .bool true])
    go_enter Try.func33, Try.ntmps33
    go_upto_region 1 with fail
    rw [HWA.out]
    clear HWA HBWA
    go_wp2_with (with_reducible refine wpList_store_rowTo (o := ⟨none, _, _, _, _, _⟩) rfl 29 _ _ rfl rfl (w.heap.size + 1) #[.int .i64 e, .int .i64 (k - n), .bool true] rfl rfl 29 _ (HZ.out).raw11 (by kernel_rfl) (by kernel_rfl) (by kernel_rfl) ?_)
    refine bodyPost_ret (results_cell_row rfl _ _ (w.heap.size + 1) 29 _ _ _ rfl HR.out Try.underlying29 rfl (by kernel_rfl)) rfl ?_
    exact ⟨rfl, HBF.out⟩
  | false =>
    have HR := Lib.hid (has_row11 HZ.out #[.int .i64 e, .int .i64 (k + n), .bool false])
    have HBF := Lib.hid (below_row (g := w.heap.size + 1) HBWA.out (by omega) #[.int .i64 e, .int .i64 (k + n), .bool false])
    go_enter Try.func33, Try.ntmps33
    go_upto_region 1 with fail
    rw [HWA.out]
    clear HWA HBWA
    go_wp2_with (with_reducible refine wpList_store_rowTo (o := ⟨none, _, _, _, _, _⟩) rfl 29 _ _ rfl rfl (w.heap.size + 1) #[.int .i64 e, .int .i64 (k + n), .bool false] rfl rfl 29 _ (HZ.out).raw11 (by kernel_rfl) (by kernel_rfl) (by kernel_rfl) ?_)
    refine bodyPost_ret (results_cell_row rfl _ _ (w.heap.size + 1) 29 _ _ _ rfl HR.out Try.underlying29 rfl (by kernel_rfl)) rfl ?_
    exact ⟨rfl, HBF.out⟩

set_option maxRecDepth 100000 in
set_option maxHeartbeats 8000000 in
theorem rbegin_any (t : Tp3) (a : TpA) (s : St3) (w : World) (ht : TopR w t a) (hs : edgeB t s.edge = true) :
    Calls Try.prog 32 #[.agg (tpC t a), .agg (stA13 s)] w fun e w' => e = .returned (.agg (psA (beginP t s))) ∧ Below w.heap.size w w' := by
  obtain ⟨wa, hwa⟩ : ∃ wa, ((w.alloc (.cells (tpC t a) 27)).alloc (.cells (stA13 s) 45)).alloc (.cells #[.int .i64 0, .int .i64 0, .bool false] 29) = wa := ⟨_, rfl⟩
  have hbwa : Below w.heap.size w wa := by rw [← hwa]; exact (((Below.refl _ _).alloc (Nat.le_refl _) _).alloc (by simp) _).alloc (by simp; omega) _
  have h0 : Has wa (w.heap.size) 27 (tpC t a) := by rw [← hwa]; exact (((Has.made _ _ _).beside _).beside _)
  have h1 : Has wa (w.heap.size + 1) 45 (stA13 s) := by rw [← hwa]; exact ((has_at11 (by simp)).beside _)
  have h2 : Has wa (w.heap.size + 1 + 1) 29 #[.int .i64 0, .int .i64 0, .bool false] := by rw [← hwa]; exact (has_at11 (by simp))
  have HWA := Lib.hid hwa; have HBWA := Lib.hid hbwa
  obtain ⟨e, rv⟩ := s
  unfold beginP psA
  dsimp only at *
  have c0 : wa.cell? ⟨w.heap.size, 0, none⟩ = some (.slice a.ae t.edges.length a.ce) := h0.cell 0
  have d0 : wa.cell? ⟨w.heap.size + 1, 0, none⟩ = some (.int .i64 e) := h1.cell 0
  have d1 : wa.cell? ⟨w.heap.size + 1, 1, none⟩ = some (.bool rv) := h1.cell 1
  have HZ := Lib.hid h2
  have H0 := Lib.hid h0
  have H1 := Lib.hid h1
  clear hwa hbwa h0 h1 h2
  unfold edgeB at hs
  simp only [Bool.and_eq_true, decide_eq_true_eq] at hs
  obtain ⟨hp1, hp2⟩ := hs
  obtain ⟨k, rfl⟩ : ∃ k : Nat, e = k := ⟨e.toNat, by omega⟩
  have hk : k < t.edges.length := by omega
  obtain ⟨be, oe, hae, -⟩ := ht.e.edge hk
  obtain ⟨q, hq⟩ : ∃ q, t.edges.getD k 0 = q := ⟨_, rfl⟩
  have hq2 : edgeLen t k = q := hq
  rw [hq2]
  have HCX := Lib.hid (fun W (hW : Below w.heap.size w W) => (show W.cell? ⟨be, oe + k, none⟩ = some (.int .i64 q) from by obtain ⟨b_, o_, e_, h_⟩ := (ht.e.under hW).edge hk; rw [hae] at e_; injection e_ with e_; injection e_ with e1_ e2_ _; subst e1_ e2_; rw [hq] at h_; exact h_))
  have HAE := Lib.hid hae
  clear hq hq2 hae hk ht
  cases rv with
  | false =>
    clear HCX HAE c0 hp2
    have HR := Lib.hid (has_row11 HZ.out #[.int .i64 (k : Int), .int .i64 0, .bool false])
    have HBF := Lib.hid (below_row (g := w.heap.size + 1 + 1) HBWA.out (by omega) #[.int .i64 (k : Int), .int .i64 0, .bool false])
    go_enter Try.func32, Try.ntmps32
    go_upto_region 1 with fail
    rw [HWA.out]
    clear HWA HBWA
    go_wp2_with (with_reducible refine wpList_store_rowTo (o := ⟨none, _, _, _, _, _⟩) rfl 29 _ _ rfl rfl (w.heap.size + 1 + 1) #[.int .i64 (k : Int), .int .i64 0, .bool false] rfl rfl 29 _ (HZ.out).raw11 (by kernel_rfl) (by kernel_rfl) (by kernel_rfl) ?_)
    refine bodyPost_ret (results_cell_row rfl _ _ (w.heap.size + 1 + 1) 29 _ _ _ rfl HR.out Try.underlying29 rfl (by kernel_rfl)) rfl ?_
    exact ⟨rfl, HBF.out⟩
  | true =>
    go_enter Try.func32, Try.ntmps32
    go_upto_region 1 with fail
    rw [HWA.out]
    clear HWA
    go_upto_region 2 with fail
    clear c0 d0 d1
    refine wp_region_held_drew (S := (fun W_ => Has W_ (w.heap.size) 27 (tpC t a) ∧ Has W_ (w.heap.size + 1) 45 (stA13 ⟨(k : Int), true⟩) ∧ (∃ o_ : Array Value, Has W_ (w.heap.size + 1 + 1) 29 o_ ∧ o_.size = 3) ∧ Below w.heap.size w W_)) (by kernel_rfl) ?_ (fun hHeld => ?_)
    · exact ⟨H0.out.draw, H1.out.draw, ⟨_, HZ.out.draw, by kernel_rfl⟩, below_dr11 HBWA.out⟩
    refine wpAnyH_take (i := 0) (oi := ⟨some 7, _, _, _, _, _⟩) (v := ?_) rfl (by kernel_rfl) (by kernel_rfl) (by kernel_rfl) (fun _ _ _ h => h) (Or.inl ⟨by rfl, ?_⟩) (by assumption) ?_
    rotate_left
    · intro w_ hSw; (try dsimp only at hSw); go_simp <;> with_reducible rfl
    simp only [Act.put, List.setIfInBounds_toArray, List.set_cons_zero, List.set_cons_succ]
    refine wpAnyH_take (i := 1) (oi := ⟨some 8, _, _, _, _, _⟩) (v := ?_) rfl (by kernel_rfl) (by kernel_rfl) (by kernel_rfl) (fun _ _ _ h => h) (Or.inl ⟨by rfl, ?_⟩) (by assumption) ?_
    rotate_left
    · intro w_ hSw; (try dsimp only at hSw); have d0_ : w_.cell? ⟨w.heap.size + 1, 0, none⟩ = some (.int .i64 (k : Int)) := hSw.2.1.cell 0; go_simp <;> with_reducible rfl
    simp only [Act.put, List.setIfInBounds_toArray, List.set_cons_zero, List.set_cons_succ]
    refine wpAnyH_take (i := 2) (oi := ⟨some 9, _, _, _, _, _⟩) (v := ?_) rfl (by kernel_rfl) (by kernel_rfl) (by kernel_rfl) (fun _ _ _ h => h) (Or.inl ⟨by rfl, ?_⟩) (by assumption) ?_
    rotate_left
    · intro w_ hSw; (try dsimp only at hSw); go_simp <;> with_reducible rfl
    simp only [Act.put, List.setIfInBounds_toArray, List.set_cons_zero, List.set_cons_succ]
    refine wpAnyH_take (i := 3) (oi := ⟨some 10, _, _, _, _, _⟩) (v := ?_) rfl (by kernel_rfl) (by kernel_rfl) (by kernel_rfl) (fun _ _ _ h => h) (Or.inl ⟨by rfl, ?_⟩) (by assumption) ?_
    rotate_left
    · intro w_ hSw; (try dsimp only at hSw); have c0_ : w_.cell? ⟨w.heap.size, 0, none⟩ = some (.slice (some ⟨be, oe, none⟩) t.edges.length a.ce) := (by have h_ := hSw.1.cell 0; rw [← HAE.out]; exact h_); go_simp <;> with_reducible rfl
    simp only [Act.put, List.setIfInBounds_toArray, List.set_cons_zero, List.set_cons_succ]
    refine wpAnyH_take (i := 4) (oi := ⟨some 11, _, _, _, _, _⟩) (v := ?_) rfl (by kernel_rfl) (by kernel_rfl) (by kernel_rfl) (fun _ _ _ h => h) (Or.inl ⟨by rfl, ?_⟩) (by assumption) ?_
    rotate_left
    · intro w_ hSw; (try dsimp only at hSw); go_simp <;> with_reducible rfl
    simp only [Act.put, List.setIfInBounds_toArray, List.set_cons_zero, List.set_cons_succ]
    refine wpAnyH_take (i := 5) (oi := ⟨some 12, _, _, _, _, _⟩) (v := ?_) rfl (by kernel_rfl) (by kernel_rfl) (by kernel_rfl) (fun _ _ _ h => h) (Or.inl ⟨by rfl, ?_⟩) (by assumption) ?_
    rotate_left
    · intro w_ hSw; (try dsimp only at hSw); have d0_ : w_.cell? ⟨w.heap.size + 1, 0, none⟩ = some (.int .i64 (k : Int)) := hSw.2.1.cell 0; go_simp <;> with_reducible rfl
    simp only [Act.put, List.setIfInBounds_toArray, List.set_cons_zero, List.set_cons_succ]
    refine wpAnyH_take (i := 6) (oi := ⟨some 13, _, _, _, _, _⟩) (v := ?_) rfl (by kernel_rfl) (by kernel_rfl) (by kernel_rfl) (fun _ _ _ h => h) (Or.inl ⟨by rfl, ?_⟩) (by assumption) ?_
    rotate_left
    · intro w_ hSw; (try dsimp only at hSw); go_simp <;> with_reducible rfl
    simp only [Act.put, List.setIfInBounds_toArray, List.set_cons_zero, List.set_cons_succ]
    refine wpAnyH_take (i := 7) (oi := ⟨some 14, _, _, _, _, _⟩) (v := ?_) rfl (by kernel_rfl) (by kernel_rfl) (by kernel_rfl) (fun _ _ _ h => h) (Or.inl ⟨by rfl, ?_⟩) (by assumption) ?_
    rotate_left
    · intro w_ hSw; (try dsimp only at hSw); have cx_ := HCX.out w_ hSw.2.2.2; go_simp <;> with_reducible rfl
    simp only [Act.put, List.setIfInBounds_toArray, List.set_cons_zero, List.set_cons_succ]
    refine wpAnyH_take (i := 8) (oi := ⟨some 15, _, _, _, _, _⟩) (v := ?_) rfl (by kernel_rfl) (by kernel_rfl) (by kernel_rfl) (fun _ _ _ h => h) (Or.inl ⟨by rfl, ?_⟩) (by assumption) ?_
    rotate_left
    · intro w_ hSw; (try dsimp only at hSw); go_simp <;> with_reducible rfl
    simp only [Act.put, List.setIfInBounds_toArray, List.set_cons_zero, List.set_cons_succ]
    refine wpAnyH_ready (rs := [9]) (by kernel_rfl) (by simp) ?_
    refine AllReadyH.cons (o := ⟨none, _, _, _, _, _⟩) rfl (fun K hK => ?_) ?_
    · rw [if_pos (by rfl)]
      obtain ⟨s0, s1, s2, s3⟩ := hHeld
      obtain ⟨o_, h_, e_⟩ := s2
      refine wp_store_row 29 _ _ rfl (w.heap.size + 1 + 1) #[.int .i64 (k : Int), .int .i64 q, .bool true] (by rfl) (by rfl) 29 o_ h_.raw11 (by kernel_rfl) e_ (by kernel_rfl) ?_
      refine hK.out _ _ ?_ (fun hHeld => ?_)
      · exact ⟨has_rowo11 s0 (by omega) _, has_rowo11 s1 (by omega) _, ⟨_, has_row11 h_ #[.int .i64 (k : Int), .int .i64 q, .bool true], by kernel_rfl⟩, below_row s3 (by omega) _⟩
      refine wpAnyH_more11 (T := (fun W_ => Has W_ (w.heap.size) 27 (tpC t a) ∧ Has W_ (w.heap.size + 1) 45 (stA13 ⟨(k : Int), true⟩) ∧ Has W_ (w.heap.size + 1 + 1) 29 #[.int .i64 (k : Int), .int .i64 q, .bool true] ∧ Below w.heap.size w W_)) (fun _ ⟨s0, s1, s2, s3⟩ => ⟨s0, s1, ⟨_, s2, by kernel_rfl⟩, s3⟩) ?_
      have hHeld2 : (fun W_ => Has W_ (w.heap.size) 27 (tpC t a) ∧ Has W_ (w.heap.size + 1) 45 (stA13 ⟨(k : Int), true⟩) ∧ Has W_ (w.heap.size + 1 + 1) 29 #[.int .i64 (k : Int), .int .i64 q, .bool true] ∧ Below w.heap.size w W_) _ := ⟨has_rowo11 s0 (by omega) _, has_rowo11 s1 (by omega) _, has_row11 h_ #[.int .i64 (k : Int), .int .i64 q, .bool true], below_row s3 (by omega) _⟩
      clear hHeld
      have hHeld := hHeld2
      clear hHeld2 hK K h_ e_ s0 s1 s3
      try simp only [Act.put]
      refine wpAnyH_done (by kernel_rfl) ?_ _
      go_wp2_with fail
      refine bodyPost_ret (results_cell_row rfl _ _ (w.heap.size + 1 + 1) 29 _ _ _ rfl hHeld.2.2.1 Try.underlying29 rfl (by kernel_rfl)) rfl ?_
      exact ⟨rfl, hHeld.2.2.2⟩
    exact AllReadyH.nil

end Go.Proofs.Ytfchmjldhefmkaa
