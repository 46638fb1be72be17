/-
  package topo as landed: Route; its path lies in memory of its own.
-/
import Derived.Test.YteioefgckigbcaaMgT

namespace Go.Proofs.Yteioefgckigbcaa

open Go.RowKit

open Go.Great

set_option maxRecDepth 100000 in
set_option maxHeartbeats 8000000 in
theorem otp_routeF (t : Tp3) (a : TpA) (id : Int) (w : World) (ht : TopR w t a) (hl : lightT t = true) :
    Calls Try.prog 35 #[.agg (tpC t a), .int .i64 id] w fun e w' => ∃ A c, SlO stC 2 w' A (routeR t id).path.length c (routeR t id).path ∧ (∀ ad, A = some ad → w.heap.size ≤ ad.block ∧ ad.block < w'.heap.size) ∧ e = .returned (.tuple #[.agg (rtA (routeR t id) (.slice A (routeR t id).path.length c)), .bool (routeF t id).isSome]) ∧ Below w.heap.size w w' := by
  have hn : t.routes.length ≤ 1048576 := by have := (light_nums13 hl).2.2.2.1; omega
  have hpl := (light_nums13 hl).2.2.2.2
  obtain ⟨wa, hwa⟩ : ∃ wa, (w.alloc (.cells (tpC t a) 27)).alloc (.cells #[.int .i64 0, .slice none 0 0, .int .i64 0, .int .i64 0] 61) = wa := ⟨_, rfl⟩
  have hbwa : Below w.heap.size w wa := by rw [← hwa]; exact ((Below.refl _ _).alloc (Nat.le_refl _) _).alloc (by simp) _
  have h0 : Has wa (w.heap.size) 27 (tpC t a) := by rw [← hwa]; exact ((Has.made _ _ _).beside _)
  have h1 : Has wa (w.heap.size + 1) 61 #[.int .i64 0, .slice none 0 0, .int .i64 0, .int .i64 0] := by rw [← hwa]; exact (has_at11 (by simp))
  have HWA := Lib.hid hwa; have HBWA := Lib.hid hbwa
  have c3 : wa.cell? ⟨w.heap.size, 3, none⟩ = some (.slice a.ar t.routes.length a.cr) := (h0).cell 3
  have H := Lib.hid (otfindroute_any t a id wa (ht.under hbwa) hn)
  have HT := Lib.hid ht
  have HP := Lib.hid h0
  have KP := Lib.hid (fun W (hW : Below wa.heap.size wa W) => h0.under hW h0.lt)
  have KZ := Lib.hid (fun W (hW : Below wa.heap.size wa W) => h1.under hW h1.lt)
  have KC : Hid (∀ W, Below wa.heap.size wa W → W.cell? ⟨w.heap.size, 3, none⟩ = some (.slice a.ar t.routes.length a.cr)) := Lib.hid fun W hW => (hW.cell (cell_block c3)).trans c3
  have HSZ : Hid (wa.heap.size = w.heap.size + 2) := Lib.hid (by rw [← hwa]; simp)
  have hfi := idx_find (fun r : Rt3 => r.id == id) t.routes
  generalize hR : idxL (fun r : Rt3 => r.id == id) t.routes = R at *
  clear hwa hbwa h0 h1 ht hR
  rcases hfi with ⟨rfl, hf⟩ | ⟨j, x, hx, rfl, hf⟩
  · have HF := Lib.hid (show routeF t id = none from hf)
    clear hf
    go_enter Try.func35, Try.ntmps35
    go_upto_region 1 with fail
    rw [HWA.out]
    clear HWA c3
    go_wp2_with (with_reducible refine wpList_load_row (o := ⟨some 8, _, _, _, _, _⟩) rfl 27 _ rfl (w.heap.size) rfl 27 (tpC t a) (0, 0) _ (HP.out).raw11 Try.underlying27 rfl (by kernel_rfl) ?_)
    refine H.out.mono ?_
    rintro e w1 ⟨rfl, hb1⟩
    have HZ1 := Lib.hid (KZ.out w1 hb1)
    have HB1 := Lib.hid (HBWA.out.trans (hb1.mono HBWA.out.size))
    clear hb1 HBWA H HP KP KZ KC
    have HR := Lib.hid (has_row11 HZ1.out #[.int .i64 0, .slice none 0 0, .int .i64 0, .int .i64 0])
    have HBF := Lib.hid (below_row (g := w.heap.size + 1) HB1.out (by omega) #[.int .i64 0, .slice none 0 0, .int .i64 0, .int .i64 0])
    go_wp2_with (with_reducible refine wpList_store_rowTo (o := ⟨none, _, _, _, _, _⟩) rfl 61 _ _ rfl rfl (w.heap.size + 1) #[.int .i64 0, .slice none 0 0, .int .i64 0, .int .i64 0] rfl rfl 61 _ (HZ1.out).raw11 (by kernel_rfl) (by kernel_rfl) (by kernel_rfl) ?_)
    refine bodyPost_ret (results_row_tmp11 rfl _ _ (w.heap.size + 1) 61 _ _ rfl HR.out Try.underlying61 rfl (by kernel_rfl)) rfl ?_
    have e1_ : routeR t id = ⟨0, [], 0, 0⟩ := by unfold routeR; rw [HF.out]; rfl
    have e2_ : (routeF t id).isSome = false := by rw [HF.out]; rfl
    rw [e1_, e2_]
    exact ⟨none, 0, SlO.nil _ _ _, (fun ad h => by cases h), rfl, HBF.out⟩
  · have HF := Lib.hid (show routeF t id = some x from hf)
    have hjl := (List.getElem?_eq_some_iff.1 hx).1
    have hpx := hpl x (List.mem_of_getElem? hx)
    clear hf hpl
    go_enter Try.func35, Try.ntmps35
    go_upto_region 1 with fail
    rw [HWA.out]
    clear HWA c3
    go_wp2_with (with_reducible refine wpList_load_row (o := ⟨some 8, _, _, _, _, _⟩) rfl 27 _ rfl (w.heap.size) rfl 27 (tpC t a) (0, 0) _ (HP.out).raw11 Try.underlying27 rfl (by kernel_rfl) ?_)
    refine H.out.mono ?_
    rintro e w1 ⟨rfl, hb1⟩
    have HZ1 := Lib.hid (KZ.out w1 hb1)
    have HB1 := Lib.hid (HBWA.out.trans (hb1.mono HBWA.out.size))
    have c3 := KC.out w1 hb1
    have s1 : w.heap.size + 2 ≤ w1.heap.size := by have := hb1.size; have := HSZ.out; omega
    obtain ⟨bk, off, PA, pc, hab, hpa, d0, d1, d2, d3⟩ := (HT.out.under HB1.out).r.at_ hx
    have HPA := Lib.hid hpa
    clear hpa
    rw [hab] at c3
    have y0 : (0 : Int) ≤ j := by omega
    have y1 : (j : Int) < t.routes.length := by omega
    have y2 : ¬ (j : Int) < 0 := by omega
    clear hb1 HBWA H HP KP KZ KC hx hab HSZ
    generalize t.routes.length = m at *
    have HPL := Lib.hid hpx
    clear hpx
    go_upto_region 5 with fail
    obtain ⟨w2, hw2⟩ : ∃ w2, w1.alloc (.cells #[.int .i64 x.id, .slice PA x.path.length pc, .int .i64 x.gap, .int .i64 x.timer] 61) = w2 := ⟨_, rfl⟩
    rw [hw2]
    have hb2 : Below w1.heap.size w1 w2 := by rw [← hw2]; exact (Below.refl _ _).alloc (Nat.le_refl _) _
    have hX : Has w2 w1.heap.size 61 #[.int .i64 x.id, .slice PA x.path.length pc, .int .i64 x.gap, .int .i64 x.timer] := by rw [← hw2]; exact Has.made _ _ _
    have hZ2 := HZ1.out.under hb2 HZ1.out.lt
    have HB2 := Lib.hid (HB1.out.trans (hb2.mono HB1.out.size))
    have e1 : w2.cell? ⟨w1.heap.size, 1, none⟩ = some (.slice PA x.path.length pc) := hX.cell 1
    have HC := Lib.hid (oclones_any PA x.path.length pc (x.path.flatMap stC) w2 ((HPA.out.under hb2).2) (stc_one13 _) (by have := HPL.out; omega))
    have HX := Lib.hid hX; have HZ2 := Lib.hid hZ2
    clear hw2 hb2 hX hZ2 d0 d1 d2 d3 c3
    go_wp2_with fail
    refine HC.out.mono ?_
    rintro e w3 ⟨A2, c2, rfl, HO, hb3⟩
    have HB3 := Lib.hid (HB2.out.trans (hb3.out.mono HB2.out.size))
    have hX3 := HX.out.under hb3.out HX.out.lt
    have hZ3 := HZ2.out.under hb3.out HZ2.out.lt
    have g1 := hX3.thaw 1
    have e1' : w3.cell? ⟨w1.heap.size, 1, none⟩ = some (.slice PA x.path.length pc) := hX3.cell 1
    have HX3 := Lib.hid hX3; have HZ3 := Lib.hid hZ3
    clear e1 hX3 hZ3 hb3 HX HZ2 HC
    go_upto_region 6 with fail
    obtain ⟨w4, hw4⟩ : ∃ w4, w3.setCell ⟨w1.heap.size, 1, none⟩ (.slice A2 x.path.length c2) = w4 := ⟨_, rfl⟩
    rw [hw4]
    have hb4 : Below w.heap.size w w4 := by rw [← hw4]; exact HB3.out.setCell (p := ⟨w1.heap.size, 1, none⟩) (by show w.heap.size ≤ w1.heap.size; omega) _
    have hX4 : Has w4 w1.heap.size 61 #[.int .i64 x.id, .slice A2 x.path.length c2, .int .i64 x.gap, .int .i64 x.timer] := by rw [← hw4]; exact (HX3.out.stored 1 _).is11 (by simp)
    have hZ4 : Has w4 (w.heap.size + 1) 61 #[.int .i64 0, .slice none 0 0, .int .i64 0, .int .i64 0] := by rw [← hw4]; exact HZ3.out.apart (show w.heap.size + 1 ≠ w1.heap.size by omega) _
    have HO4 : Hid (w4.ownsRow w2.heap.size 75 2 (.slice A2 x.path.length c2) x.path.length (x.path.flatMap stC)) := Lib.hid (by rw [← hw4]; exact own_keep HO.out (only_store (only_refl _ _) rfl _) (own_apart HO.out HX3.out (by decide)))
    have HX4 := Lib.hid hX4; have HZ4 := Lib.hid hZ4; have HB4 := Lib.hid hb4
    clear hw4 hb4 hX4 hZ4 g1 e1' HX3 HZ3 HO
    have HR := Lib.hid (has_row11 HZ4.out #[.int .i64 x.id, .slice A2 x.path.length c2, .int .i64 x.gap, .int .i64 x.timer])
    have HBF := Lib.hid (below_row (g := w.heap.size + 1) HB4.out (by omega) #[.int .i64 x.id, .slice A2 x.path.length c2, .int .i64 x.gap, .int .i64 x.timer])
    have HO5 := Lib.hid (own_keep HO4.out (only_row11 w4 (w.heap.size + 1) #[.int .i64 x.id, .slice A2 x.path.length c2, .int .i64 x.gap, .int .i64 x.timer]) (own_apart HO4.out HZ4.out (by decide)))
    go_wp2_with (first | (with_reducible refine wpList_load_row (o := ⟨some 23, _, _, _, _, _⟩) rfl 61 _ rfl (w1.heap.size) rfl 61 #[.int .i64 x.id, .slice A2 x.path.length c2, .int .i64 x.gap, .int .i64 x.timer] (0, 0) _ (HX4.out).raw11 Try.underlying61 rfl (by kernel_rfl) ?_) | (with_reducible refine wpList_store_rowTo (o := ⟨none, _, _, _, _, _⟩) rfl 61 _ _ rfl rfl (w.heap.size + 1) #[.int .i64 x.id, .slice A2 x.path.length c2, .int .i64 x.gap, .int .i64 x.timer] rfl rfl 61 _ (HZ4.out).raw11 (by kernel_rfl) (by kernel_rfl) (by kernel_rfl) ?_))
    refine bodyPost_ret (results_row_tmp11 rfl _ _ (w.heap.size + 1) 61 _ _ rfl HR.out Try.underlying61 rfl (by kernel_rfl)) rfl ?_
    have e1_ : routeR t id = x := by unfold routeR; rw [HF.out]; rfl
    have e2_ : (routeF t id).isSome = true := by rw [HF.out]; rfl
    rw [e1_, e2_]
    exact ⟨A2, c2, ⟨rfl, Sl.of_own HO5.out⟩, (fun ad h => by
      subst h
      rcases HO5.out.2 with ⟨e, _⟩ | ⟨g, cap, cur, e, hg, hbk, _⟩
      · cases e
      · injection e with e1 _ _
        injection e1 with e2
        have := HB2.out.size
        subst e2
        exact ⟨Nat.le_trans this hg, (Array.getElem?_eq_some_iff.1 hbk).1⟩), rfl, HBF.out⟩
end Go.Proofs.Yteioefgckigbcaa
