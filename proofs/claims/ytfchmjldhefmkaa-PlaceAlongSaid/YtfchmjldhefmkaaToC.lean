/-
  package topo as landed: slices.Clone of steps; Bal, Route; isTooLong, repeatsEdge, haveBals.
-/
import Derived.Test.YtfchmjldhefmkaaToB

import Derived.Test.YtfchmjldhefmkaaTpRefC

namespace Go.Proofs.Ytfchmjldhefmkaa

open Go.RowKit

open Go.Great

theorem info_step13 : (Try.prog.info? 45).map (fun i => (i.zero, i.size, i.bytes)) = some (some (.agg #[.int .i64 0, .bool false]), 2, 16) := by kernel_rfl
theorem idx_find {α : Type} (p : α → Bool) (l : List α) : (idxL p l = -1 ∧ l.find? p = none) ∨ ∃ (j : Nat) (x : α), l[j]? = some x ∧ idxL p l = j ∧ l.find? p = some x := by
  unfold idxL
  rcases idxA_spec p l 0 with ⟨h1, h2⟩ | ⟨j, x, h1, h2, h3, h4⟩
  · exact .inl ⟨h1, find_none13 fun m y _ hy => h2 m y hy⟩
  · exact .inr ⟨j, x, h1, by rw [h4]; congr 1; omega, find_at13 h1 h2 h3⟩

set_option maxRecDepth 100000 in
set_option maxHeartbeats 8000000 in
theorem otp_bal (t : Tp3) (a : TpA) (id : Int) (w : World) (ht : TopR w t a) (hl : lightT t = true) :
    Calls Try.prog 35 #[.agg (tpC t a), .int .i64 id] w fun e w' => e = .returned (.tuple #[.agg (blA (balR t id)), .bool (balF t id).isSome]) ∧ Below w.heap.size w w' := by
  have hn : t.bals.length ≤ 1048576 := by have := (light_nums13 hl).2.2.1; omega
  obtain ⟨wa, hwa⟩ : ∃ wa, (w.alloc (.cells (tpC t a) 27)).alloc (.cells #[.int .i64 0, .int .i64 0, .int .i64 0] 62) = wa := ⟨_, rfl⟩
  have hbwa : Below w.heap.size w wa := by rw [← hwa]; exact ((Below.refl _ _).alloc (Nat.le_refl _) _).alloc (by simp) _
  have h0 : Has wa (w.heap.size) 27 (tpC t a) := by rw [← hwa]; exact ((Has.made _ _ _).beside _)
  have h1 : Has wa (w.heap.size + 1) 62 #[.int .i64 0, .int .i64 0, .int .i64 0] := by rw [← hwa]; exact (has_at11 (by simp))
  have HWA := Lib.hid hwa; have HBWA := Lib.hid hbwa
  have c2 : wa.cell? ⟨w.heap.size, 2, none⟩ = some (.slice a.ab t.bals.length a.cb) := (h0).cell 2
  have H := Lib.hid (otfindbal_any t a id wa (ht.under hbwa) hn)
  have HT := Lib.hid ht
  have HP := Lib.hid h0
  have KP := Lib.hid (fun W (hW : Below wa.heap.size wa W) => h0.under hW h0.lt)
  have KZ := Lib.hid (fun W (hW : Below wa.heap.size wa W) => h1.under hW h1.lt)
  have KC : Hid (∀ W, Below wa.heap.size wa W → W.cell? ⟨w.heap.size, 2, none⟩ = some (.slice a.ab t.bals.length a.cb)) := Lib.hid fun W hW => (hW.cell (cell_block c2)).trans c2
  have hfi := idx_find (fun b : Bl3 => b.id == id) t.bals
  generalize hR : idxL (fun b : Bl3 => b.id == id) t.bals = R at *
  clear hwa hbwa h0 h1 ht hR
  rcases hfi with ⟨rfl, hf⟩ | ⟨j, x, hx, rfl, hf⟩
  · have HF := Lib.hid (show balF t id = none from hf)
    clear hf
    go_enter Try.func35, Try.ntmps35
    go_upto_region 1 with fail
    rw [HWA.out]
    clear HWA c2
    go_wp2_with (with_reducible refine wpList_load_row (o := ⟨some 7, _, _, _, _, _⟩) rfl 27 _ rfl (w.heap.size) rfl 27 (tpC t a) (0, 0) _ (HP.out).raw11 Try.underlying27 rfl (by kernel_rfl) ?_)
    refine H.out.mono ?_
    rintro e w1 ⟨rfl, hb1⟩
    have HZ1 := Lib.hid (KZ.out w1 hb1)
    have HB1 := Lib.hid (HBWA.out.trans (hb1.mono HBWA.out.size))
    clear hb1 HBWA H HP KP KZ KC
    have HR := Lib.hid (has_row11 HZ1.out #[.int .i64 0, .int .i64 0, .int .i64 0])
    have HBF := Lib.hid (below_row (g := w.heap.size + 1) HB1.out (by omega) #[.int .i64 0, .int .i64 0, .int .i64 0])
    go_wp2_with (with_reducible refine wpList_store_rowTo (o := ⟨none, _, _, _, _, _⟩) rfl 62 _ _ rfl rfl (w.heap.size + 1) #[.int .i64 0, .int .i64 0, .int .i64 0] rfl rfl 62 _ (HZ1.out).raw11 (by kernel_rfl) (by kernel_rfl) (by kernel_rfl) ?_)
    refine bodyPost_ret (results_row_tmp11 rfl _ _ (w.heap.size + 1) 62 _ _ rfl HR.out Try.underlying62 rfl (by kernel_rfl)) rfl ?_
    have e1_ : balR t id = ⟨0, 0, 0⟩ := by unfold balR; rw [HF.out]; rfl
    have e2_ : (balF t id).isSome = false := by rw [HF.out]; rfl
    rw [e1_, e2_]
    exact ⟨rfl, HBF.out⟩
  · have HF := Lib.hid (show balF t id = some x from hf)
    have hjl := (List.getElem?_eq_some_iff.1 hx).1
    clear hf
    go_enter Try.func35, Try.ntmps35
    go_upto_region 1 with fail
    rw [HWA.out]
    clear HWA c2
    go_wp2_with (with_reducible refine wpList_load_row (o := ⟨some 7, _, _, _, _, _⟩) rfl 27 _ rfl (w.heap.size) rfl 27 (tpC t a) (0, 0) _ (HP.out).raw11 Try.underlying27 rfl (by kernel_rfl) ?_)
    refine H.out.mono ?_
    rintro e w1 ⟨rfl, hb1⟩
    have HZ1 := Lib.hid (KZ.out w1 hb1)
    have HB1 := Lib.hid (HBWA.out.trans (hb1.mono HBWA.out.size))
    have c2 := KC.out w1 hb1
    obtain ⟨bk, off, hab, d0, d1, d2⟩ := (HT.out.under HB1.out).b.bal hx
    rw [hab] at c2
    have y0 : (0 : Int) ≤ j := by omega
    have y1 : (j : Int) < t.bals.length := by omega
    have y2 : ¬ (j : Int) < 0 := by omega
    clear hb1 HBWA H HP KP KZ KC hx hab
    generalize t.bals.length = m at *
    have HR := Lib.hid (has_row11 HZ1.out #[.int .i64 x.id, .int .i64 x.edge, .int .i64 x.at_])
    have HBF := Lib.hid (below_row (g := w.heap.size + 1) HB1.out (by omega) #[.int .i64 x.id, .int .i64 x.edge, .int .i64 x.at_])
    go_wp2_with (with_reducible refine wpList_store_rowTo (o := ⟨none, _, _, _, _, _⟩) rfl 62 _ _ rfl rfl (w.heap.size + 1) #[.int .i64 x.id, .int .i64 x.edge, .int .i64 x.at_] rfl rfl 62 _ (HZ1.out).raw11 (by kernel_rfl) (by kernel_rfl) (by kernel_rfl) ?_)
    refine bodyPost_ret (results_row_tmp11 rfl _ _ (w.heap.size + 1) 62 _ _ rfl HR.out Try.underlying62 rfl (by kernel_rfl)) rfl ?_
    have e1_ : balR t id = x := by unfold balR; rw [HF.out]; rfl
    have e2_ : (balF t id).isSome = true := by rw [HF.out]; rfl
    rw [e1_, e2_]
    exact ⟨rfl, HBF.out⟩

set_option maxRecDepth 100000 in
set_option maxHeartbeats 8000000 in
theorem otlong_any (t : Tp3) (a : TpA) (w : World) :
    Calls Try.prog 50 #[.agg (tpC t a)] w fun e w' => e = .returned (.bool (longB t)) ∧ Below w.heap.size w w' := by
  obtain ⟨wa, hwa⟩ : ∃ wa, w.alloc (.cells (tpC t a) 27) = wa := ⟨_, rfl⟩
  have hbwa : Below w.heap.size w wa := by rw [← hwa]; exact (Below.refl _ _).alloc (Nat.le_refl _) _
  have h0 : Has wa (w.heap.size) 27 (tpC t a) := by rw [← hwa]; exact (Has.made _ _ _)
  have HWA := Lib.hid hwa; have HBWA := Lib.hid hbwa
  have c0 : wa.cell? ⟨w.heap.size, 0, none⟩ = some (.slice a.ae t.edges.length a.ce) := (h0).cell 0
  have c1 : wa.cell? ⟨w.heap.size, 1, none⟩ = some (.slice a.aj t.joints.length a.cj) := (h0).cell 1
  have c2 : wa.cell? ⟨w.heap.size, 2, none⟩ = some (.slice a.ab t.bals.length a.cb) := (h0).cell 2
  have c3 : wa.cell? ⟨w.heap.size, 3, none⟩ = some (.slice a.ar t.routes.length a.cr) := (h0).cell 3
  unfold longB
  clear hwa hbwa h0
  unfold tpC at *
  obtain ⟨m0, hm0⟩ : ∃ m, t.edges.length = m := ⟨_, rfl⟩
  obtain ⟨m1, hm1⟩ : ∃ m, t.joints.length = m := ⟨_, rfl⟩
  obtain ⟨m2, hm2⟩ : ∃ m, t.bals.length = m := ⟨_, rfl⟩
  obtain ⟨m3, hm3⟩ : ∃ m, t.routes.length = m := ⟨_, rfl⟩
  rw [hm0, hm1, hm2, hm3] at HWA
  rw [hm0] at c0
  rw [hm1] at c1
  rw [hm2] at c2
  rw [hm3] at c3
  rw [hm0, hm1, hm2, hm3]
  clear hm0 hm1 hm2 hm3
  by_cases h0 : 40 < m0
  · rw [decide_eq_true h0, Bool.true_or]
    have g0 : (m0 : Int) > 40 := by omega
    go_enter Try.func50, Try.ntmps50
    go_upto_region 1 with fail
    rw [HWA.out]
    clear HWA
    go_wp2
    go_ret
    exact ⟨rfl, HBWA.out⟩
  · rw [decide_eq_false h0, Bool.false_or]
    by_cases h1 : 80 < m1
    · rw [decide_eq_true h1, Bool.true_or]
      have g0 : ¬ (m0 : Int) > 40 := by omega
      have g1 : (m1 : Int) > 80 := by omega
      go_enter Try.func50, Try.ntmps50
      go_upto_region 1 with fail
      rw [HWA.out]
      clear HWA
      go_wp2
      go_ret
      exact ⟨rfl, HBWA.out⟩
    · rw [decide_eq_false h1, Bool.false_or]
      by_cases h2 : 80 < m2
      · rw [decide_eq_true h2, Bool.true_or]
        have g0 : ¬ (m0 : Int) > 40 := by omega
        have g1 : ¬ (m1 : Int) > 80 := by omega
        have g2 : (m2 : Int) > 80 := by omega
        go_enter Try.func50, Try.ntmps50
        go_upto_region 1 with fail
        rw [HWA.out]
        clear HWA
        go_wp2
        go_ret
        exact ⟨rfl, HBWA.out⟩
      · rw [decide_eq_false h2, Bool.false_or]
        by_cases h3 : 30 < m3
        · rw [decide_eq_true h3]
          have g0 : ¬ (m0 : Int) > 40 := by omega
          have g1 : ¬ (m1 : Int) > 80 := by omega
          have g2 : ¬ (m2 : Int) > 80 := by omega
          have g3 : (m3 : Int) > 30 := by omega
          go_enter Try.func50, Try.ntmps50
          go_upto_region 1 with fail
          rw [HWA.out]
          clear HWA
          go_wp2
          go_ret
          exact ⟨rfl, HBWA.out⟩
        · rw [decide_eq_false h3]
          have g0 : ¬ (m0 : Int) > 40 := by omega
          have g1 : ¬ (m1 : Int) > 80 := by omega
          have g2 : ¬ (m2 : Int) > 80 := by omega
          have g3 : ¬ (m3 : Int) > 30 := by omega
          go_enter Try.func50, Try.ntmps50
          go_upto_region 1 with fail
          rw [HWA.out]
          clear HWA
          go_wp2
          go_ret
          exact ⟨rfl, HBWA.out⟩

end Go.Proofs.Ytfchmjldhefmkaa
