/-
  package topo as landed: Route, repeatsEdge, haveBals.
-/
import Derived.Test.YteioefgckigbcaaToC

import Derived.Test.YteioefgckigbcaaTpRefE

namespace Go.Proofs.Yteioefgckigbcaa

open Go.RowKit

open Go.Great

theorem stc_one13 (l : List St3) : ∀ u ∈ l.flatMap stC, u.oneCell' = true := by
  intro u hu
  obtain ⟨s, _, h⟩ := List.mem_flatMap.1 hu
  unfold stC at h
  rcases List.mem_cons.1 h with rfl | h
  · rfl
  · rcases List.mem_cons.1 h with rfl | h
    · rfl
    · cases h
/-- Has an edge come twice: the first i steps looked at. -/
def repB (path : List St3) (i : Nat) : Bool := match path[i]? with | none => false | some s => (path.take i).any fun x => x.edge == s.edge
theorem rep_twice {path : List St3} : (∃ i, i < path.length ∧ repB path i = true) ↔ twiceB path = true := by
  unfold twiceB
  rw [decide_eq_true_eq, List.nodup_iff_pairwise_ne, List.pairwise_iff_getElem]
  constructor
  · rintro ⟨i, hi, h⟩ hn
    unfold repB at h
    rw [List.getElem?_eq_getElem hi] at h
    simp only [List.any_eq_true, beq_iff_eq] at h
    obtain ⟨x, hx, e⟩ := h
    obtain ⟨m, hm, rfl⟩ := List.getElem_of_mem hx
    rw [List.length_take] at hm
    refine hn m i (by rw [List.length_map]; omega) (by rw [List.length_map]; exact hi) (by omega) ?_
    rw [List.getElem_map, List.getElem_map]
    rw [List.getElem_take] at e
    exact e
  · intro hn
    refine Classical.byContradiction fun hc => hn fun a b ha hb hab e => hc ?_
    rw [List.length_map] at ha hb
    refine ⟨b, hb, ?_⟩
    unfold repB
    rw [List.getElem?_eq_getElem hb]
    simp only [List.any_eq_true, beq_iff_eq]
    refine ⟨path[a], List.mem_of_getElem? (i := a) (by rw [List.getElem?_take_of_lt hab]; exact List.getElem?_eq_getElem ha), ?_⟩
    simpa using e

set_option maxRecDepth 100000 in
set_option maxHeartbeats 8000000 in
theorem otp_route (t : Tp3) (a : TpA) (id : Int) (w : World) (ht : TopR w t a) (hl : lightT t = true) :
    Calls Try.prog 35 #[.agg (tpC t a), .int .i64 id] w fun e w' => ∃ v, PathV w' v (routeR t id).path ∧ e = .returned (.tuple #[.agg (rtA (routeR t id) v), .bool (routeF t id).isSome]) ∧ Below w.heap.size w w' := by
  have hn : t.routes.length ≤ 1048576 := by have := (light_nums13 hl).2.2.2.1; omega
  have hpl := (light_nums13 hl).2.2.2.2
  obtain ⟨wa, hwa⟩ : ∃ wa, (w.alloc (.cells (tpC t a) 27)).alloc (.cells #[.int .i64 0, .slice none 0 0, .int .i64 0, .int .i64 0] 61) = wa := ⟨_, rfl⟩
  have hbwa : Below w.heap.size w wa := by rw [← hwa]; exact ((Below.refl _ _).alloc (Nat.le_refl _) _).alloc (by simp) _
  have h0 : Has wa (w.heap.size) 27 (tpC t a) := by rw [← hwa]; exact ((Has.made _ _ _).beside _)
  have h1 : Has wa (w.heap.size + 1) 61 #[.int .i64 0, .slice none 0 0, .int .i64 0, .int .i64 0] := by rw [← hwa]; exact (has_at11 (by simp))
  have HWA := Lib.hid hwa; have HBWA := Lib.hid hbwa
  have c3 : wa.cell? ⟨w.heap.size, 3, none⟩ = some (.slice a.ar t.routes.length a.cr) := (h0).cell 3
  have H := Lib.hid (otfindroute_any t a id wa (ht.under hbwa) hn)
  have HT := Lib.hid ht
  have HP := Lib.hid h0
  have KP := Lib.hid (fun W (hW : Below wa.heap.size wa W) => h0.under hW h0.lt)
  have KZ := Lib.hid (fun W (hW : Below wa.heap.size wa W) => h1.under hW h1.lt)
  have KC : Hid (∀ W, Below wa.heap.size wa W → W.cell? ⟨w.heap.size, 3, none⟩ = some (.slice a.ar t.routes.length a.cr)) := Lib.hid fun W hW => (hW.cell (cell_block c3)).trans c3
  have HSZ : Hid (wa.heap.size = w.heap.size + 2) := Lib.hid (by rw [← hwa]; simp)
  have hfi := idx_find (fun r : Rt3 => r.id == id) t.routes
  generalize hR : idxL (fun r : Rt3 => r.id == id) t.routes = R at *
  clear hwa hbwa h0 h1 ht hR
  rcases hfi with ⟨rfl, hf⟩ | ⟨j, x, hx, rfl, hf⟩
  · have HF := Lib.hid (show routeF t id = none from hf)
    clear hf
    go_enter Try.func35, Try.ntmps35
    go_upto_region 1 with fail
    rw [HWA.out]
    clear HWA c3
    go_wp2_with (with_reducible refine wpList_load_row (o := ⟨some 8, _, _, _, _, _⟩) rfl 27 _ rfl (w.heap.size) rfl 27 (tpC t a) (0, 0) _ (HP.out).raw11 Try.underlying27 rfl (by kernel_rfl) ?_)
    refine H.out.mono ?_
    rintro e w1 ⟨rfl, hb1⟩
    have HZ1 := Lib.hid (KZ.out w1 hb1)
    have HB1 := Lib.hid (HBWA.out.trans (hb1.mono HBWA.out.size))
    clear hb1 HBWA H HP KP KZ KC
    have HR := Lib.hid (has_row11 HZ1.out #[.int .i64 0, .slice none 0 0, .int .i64 0, .int .i64 0])
    have HBF := Lib.hid (below_row (g := w.heap.size + 1) HB1.out (by omega) #[.int .i64 0, .slice none 0 0, .int .i64 0, .int .i64 0])
    go_wp2_with (with_reducible refine wpList_store_rowTo (o := ⟨none, _, _, _, _, _⟩) rfl 61 _ _ rfl rfl (w.heap.size + 1) #[.int .i64 0, .slice none 0 0, .int .i64 0, .int .i64 0] rfl rfl 61 _ (HZ1.out).raw11 (by kernel_rfl) (by kernel_rfl) (by kernel_rfl) ?_)
    refine bodyPost_ret (results_row_tmp11 rfl _ _ (w.heap.size + 1) 61 _ _ rfl HR.out Try.underlying61 rfl (by kernel_rfl)) rfl ?_
    have e1_ : routeR t id = ⟨0, [], 0, 0⟩ := by unfold routeR; rw [HF.out]; rfl
    have e2_ : (routeF t id).isSome = false := by rw [HF.out]; rfl
    rw [e1_, e2_]
    exact ⟨.slice none 0 0, ⟨none, 0, rfl, SlO.nil _ _ _⟩, rfl, HBF.out⟩
  · have HF := Lib.hid (show routeF t id = some x from hf)
    have hjl := (List.getElem?_eq_some_iff.1 hx).1
    have hpx := hpl x (List.mem_of_getElem? hx)
    clear hf hpl
    go_enter Try.func35, Try.ntmps35
    go_upto_region 1 with fail
    rw [HWA.out]
    clear HWA c3
    go_wp2_with (with_reducible refine wpList_load_row (o := ⟨some 8, _, _, _, _, _⟩) rfl 27 _ rfl (w.heap.size) rfl 27 (tpC t a) (0, 0) _ (HP.out).raw11 Try.underlying27 rfl (by kernel_rfl) ?_)
    refine H.out.mono ?_
    rintro e w1 ⟨rfl, hb1⟩
    have HZ1 := Lib.hid (KZ.out w1 hb1)
    have HB1 := Lib.hid (HBWA.out.trans (hb1.mono HBWA.out.size))
    have c3 := KC.out w1 hb1
    have s1 : w.heap.size + 2 ≤ w1.heap.size := by have := hb1.size; have := HSZ.out; omega
    obtain ⟨bk, off, PA, pc, hab, hpa, d0, d1, d2, d3⟩ := (HT.out.under HB1.out).r.at_ hx
    have HPA := Lib.hid hpa
    clear hpa
    rw [hab] at c3
    have y0 : (0 : Int) ≤ j := by omega
    have y1 : (j : Int) < t.routes.length := by omega
    have y2 : ¬ (j : Int) < 0 := by omega
    clear hb1 HBWA H HP KP KZ KC hx hab HSZ
    generalize t.routes.length = m at *
    have HPL := Lib.hid hpx
    clear hpx
    go_upto_region 5 with fail
    obtain ⟨w2, hw2⟩ : ∃ w2, w1.alloc (.cells #[.int .i64 x.id, .slice PA x.path.length pc, .int .i64 x.gap, .int .i64 x.timer] 61) = w2 := ⟨_, rfl⟩
    rw [hw2]
    have hb2 : Below w1.heap.size w1 w2 := by rw [← hw2]; exact (Below.refl _ _).alloc (Nat.le_refl _) _
    have hX : Has w2 w1.heap.size 61 #[.int .i64 x.id, .slice PA x.path.length pc, .int .i64 x.gap, .int .i64 x.timer] := by rw [← hw2]; exact Has.made _ _ _
    have hZ2 := HZ1.out.under hb2 HZ1.out.lt
    have HB2 := Lib.hid (HB1.out.trans (hb2.mono HB1.out.size))
    have e1 : w2.cell? ⟨w1.heap.size, 1, none⟩ = some (.slice PA x.path.length pc) := hX.cell 1
    have HC := Lib.hid (oclones_any PA x.path.length pc (x.path.flatMap stC) w2 ((HPA.out.under hb2).2) (stc_one13 _) (by have := HPL.out; omega))
    have HX := Lib.hid hX; have HZ2 := Lib.hid hZ2
    clear hw2 hb2 hX hZ2 d0 d1 d2 d3 c3
    go_wp2_with fail
    refine HC.out.mono ?_
    rintro e w3 ⟨A2, c2, rfl, HO, hb3⟩
    have HB3 := Lib.hid (HB2.out.trans (hb3.out.mono HB2.out.size))
    have hX3 := HX.out.under hb3.out HX.out.lt
    have hZ3 := HZ2.out.under hb3.out HZ2.out.lt
    have g1 := hX3.thaw 1
    have e1' : w3.cell? ⟨w1.heap.size, 1, none⟩ = some (.slice PA x.path.length pc) := hX3.cell 1
    have HX3 := Lib.hid hX3; have HZ3 := Lib.hid hZ3
    clear e1 hX3 hZ3 hb3 HX HZ2 HC
    go_upto_region 6 with fail
    obtain ⟨w4, hw4⟩ : ∃ w4, w3.setCell ⟨w1.heap.size, 1, none⟩ (.slice A2 x.path.length c2) = w4 := ⟨_, rfl⟩
    rw [hw4]
    have hb4 : Below w.heap.size w w4 := by rw [← hw4]; exact HB3.out.setCell (p := ⟨w1.heap.size, 1, none⟩) (by show w.heap.size ≤ w1.heap.size; omega) _
    have hX4 : Has w4 w1.heap.size 61 #[.int .i64 x.id, .slice A2 x.path.length c2, .int .i64 x.gap, .int .i64 x.timer] := by rw [← hw4]; exact (HX3.out.stored 1 _).is11 (by simp)
    have hZ4 : Has w4 (w.heap.size + 1) 61 #[.int .i64 0, .slice none 0 0, .int .i64 0, .int .i64 0] := by rw [← hw4]; exact HZ3.out.apart (show w.heap.size + 1 ≠ w1.heap.size by omega) _
    have HO4 : Hid (w4.ownsRow w2.heap.size 75 2 (.slice A2 x.path.length c2) x.path.length (x.path.flatMap stC)) := Lib.hid (by rw [← hw4]; exact own_keep HO.out (only_store (only_refl _ _) rfl _) (own_apart HO.out HX3.out (by decide)))
    have HX4 := Lib.hid hX4; have HZ4 := Lib.hid hZ4; have HB4 := Lib.hid hb4
    clear hw4 hb4 hX4 hZ4 g1 e1' HX3 HZ3 HO
    have HR := Lib.hid (has_row11 HZ4.out #[.int .i64 x.id, .slice A2 x.path.length c2, .int .i64 x.gap, .int .i64 x.timer])
    have HBF := Lib.hid (below_row (g := w.heap.size + 1) HB4.out (by omega) #[.int .i64 x.id, .slice A2 x.path.length c2, .int .i64 x.gap, .int .i64 x.timer])
    have HO5 := Lib.hid (own_keep HO4.out (only_row11 w4 (w.heap.size + 1) #[.int .i64 x.id, .slice A2 x.path.length c2, .int .i64 x.gap, .int .i64 x.timer]) (own_apart HO4.out HZ4.out (by decide)))
    go_wp2_with (first | (with_reducible refine wpList_load_row (o := ⟨some 23, _, _, _, _, _⟩) rfl 61 _ rfl (w1.heap.size) rfl 61 #[.int .i64 x.id, .slice A2 x.path.length c2, .int .i64 x.gap, .int .i64 x.timer] (0, 0) _ (HX4.out).raw11 Try.underlying61 rfl (by kernel_rfl) ?_) | (with_reducible refine wpList_store_rowTo (o := ⟨none, _, _, _, _, _⟩) rfl 61 _ _ rfl rfl (w.heap.size + 1) #[.int .i64 x.id, .slice A2 x.path.length c2, .int .i64 x.gap, .int .i64 x.timer] rfl rfl 61 _ (HZ4.out).raw11 (by kernel_rfl) (by kernel_rfl) (by kernel_rfl) ?_))
    refine bodyPost_ret (results_row_tmp11 rfl _ _ (w.heap.size + 1) 61 _ _ rfl HR.out Try.underlying61 rfl (by kernel_rfl)) rfl ?_
    have e1_ : routeR t id = x := by unfold routeR; rw [HF.out]; rfl
    have e2_ : (routeF t id).isSome = true := by rw [HF.out]; rfl
    rw [e1_, e2_]
    exact ⟨.slice A2 x.path.length c2, ⟨A2, c2, rfl, rfl, Sl.of_own HO5.out⟩, rfl, HBF.out⟩

set_option maxRecDepth 100000 in
set_option maxHeartbeats 8000000 in
theorem otrep_any (path : List St3) (A : Option Addr) (n c : Nat) (w : World) (hp : SlO stC 2 w A n c path) (hn : n ≤ 1048576) (hc : n ≤ c) :
    Calls Try.prog 55 #[.slice A n c] w fun e w' => e = .returned (.bool (twiceB path)) ∧ Below w.heap.size w w' := by
  have HS := Lib.hid hp
  have HN : Hid (path.length = n) := Lib.hid hp.1
  clear hp
  obtain ⟨Q, hQ⟩ : ∃ Q, twiceB path = Q := ⟨_, rfl⟩
  have HQ := Lib.hid hQ
  rw [hQ]
  clear hQ
  go_enter Try.func55, Try.ntmps55
  go_wp2
  go_loopg [7] n (fun kk v wl => ∃ i : Nat, i ≤ n ∧ n - i ≤ kk ∧ v = .int .i64 i ∧ Hid (∀ m, m < i → repB path m = false) ∧ Hid (Below w.heap.size w wl))
  case atStart => exact ⟨0, by omega, by omega, rfl, Lib.hid fun m h => absurd h (by omega), Lib.hid (Below.refl _ _)⟩
  case round =>
    obtain ⟨i, hi, hik, rfl, HNO, HBL⟩ := hrel
    by_cases hlt : i < n
    rotate_left
    · have y1 : ¬ (i : Int) < n := by omega
      have HF : Hid (Q = false) := Lib.hid (by
        rw [← HQ.out]
        cases hq : twiceB path with
        | false => rfl
        | true =>
          obtain ⟨m, hm, h⟩ := rep_twice.2 hq
          rw [HNO.out m (by have := HN.out; omega)] at h
          cases h)
      go_wp2
      go_ret
      exact ⟨by rw [HF.out]; rfl, HBL.out⟩
    obtain ⟨x, hx⟩ : ∃ x, path[i]? = some x := ⟨_, List.getElem?_eq_getElem (by rw [HN.out]; omega)⟩
    obtain ⟨bk, off, rfl, d0, d1⟩ := (HS.out.under HBL.out).step hx
    have y0 : (0 : Int) ≤ i := by omega
    have y1 : (i : Int) < n := by omega
    have y2 : (i : Int) ≤ c := by omega
    obtain ⟨q, hq⟩ : ∃ q, repB path i = q := ⟨_, rfl⟩
    have hqe : ((path.take i).any fun y => y.edge == x.edge) = q := by rw [← hq]; unfold repB; rw [hx]
    have HQI := Lib.hid hq
    go_upto_region 4 with fail
    obtain ⟨wb, hwb⟩ : ∃ wb, wr.alloc (.cells #[.int .i64 x.edge, .bool x.rev] 75) = wb := ⟨_, rfl⟩
    rw [hwb]
    have hbb : Below wr.heap.size wr wb := by rw [← hwb]; exact (Below.refl _ _).alloc (Nat.le_refl _) _
    have hH : Has wb wr.heap.size 75 #[.int .i64 x.edge, .bool x.rev] := by rw [← hwb]; exact Has.made _ _ _
    have HBB := Lib.hid (HBL.out.trans (hbb.mono HBL.out.size))
    have hc0 : wb.cell? ⟨wr.heap.size, 0, none⟩ = some (.int .i64 x.edge) := hH.cell 0
    have HC := Lib.hid (oct_re (fun y => y.edge == x.edge) (path.take i) (some ⟨bk, off, none⟩) i c wr.heap.size wb ((HS.out.under HBB.out).take (fun _ => rfl) (by simp) hi) (by omega) (Lib.hid fun y W hW => otre_any y x.edge wr.heap.size W ((hW.cell (cell_block hc0)).trans hc0)))
    rw [hqe] at HC
    clear hwb hbb hH hc0 d0 d1 hqe hx hq
    cases q with
    | true =>
      have HF : Hid (Q = true) := Lib.hid (by rw [← HQ.out]; exact rep_twice.1 ⟨i, by have := HN.out; omega, HQI.out⟩)
      go_wp2_with fail
      refine HC.out.mono ?_
      rintro e w1 ⟨rfl, hb1⟩
      have HB1 := Lib.hid (HBB.out.trans (hb1.mono HBB.out.size))
      clear hb1 HNO
      go_wp2
      go_ret
      exact ⟨by rw [HF.out]; rfl, HB1.out⟩
    | false =>
      go_wp2_with fail
      refine HC.out.mono ?_
      rintro e w1 ⟨rfl, hb1⟩
      have HB1 := Lib.hid (HBB.out.trans (hb1.mono HBB.out.size))
      have HN2 : Hid (∀ m, m < i + 1 → repB path m = false) := Lib.hid fun m hm => by
        by_cases h : m = i
        · rw [h]; exact HQI.out
        · exact HNO.out m (by omega)
      clear hb1 HNO
      go_wp2
      go_roundg (gk - 1)
      case measure => omega
      case rel => exact ⟨i + 1, by omega, by omega, by go_num, HN2, HB1⟩

set_option maxRecDepth 100000 in
set_option maxHeartbeats 8000000 in
theorem othave_any (t : Tp3) (a : TpA) (path : List St3) (A : Option Addr) (n c : Nat) (w : World) (ht : TopR w t a) (hb : t.bals.length ≤ 100) (hp : SlO stC 2 w A n c path) (hn : n ≤ 1048576) :
    Calls Try.prog 56 #[.agg (tpC t a), .slice A n c] w fun e w' => e = .returned (.bool (path.all (hasBal t))) ∧ Below w.heap.size w w' := by
  obtain ⟨wa, hwa⟩ : ∃ wa, w.alloc (.cells (tpC t a) 27) = wa := ⟨_, rfl⟩
  have hbwa : Below w.heap.size w wa := by rw [← hwa]; exact (Below.refl _ _).alloc (Nat.le_refl _) _
  have h0 : Has wa (w.heap.size) 27 (tpC t a) := by rw [← hwa]; exact (Has.made _ _ _)
  have HWA := Lib.hid hwa; have HBWA := Lib.hid hbwa
  have HS := Lib.hid (hp.under hbwa)
  have HT := Lib.hid (ht.under hbwa)
  have HN : Hid (path.length = n) := Lib.hid hp.1
  have HP := Lib.hid h0
  have KC : Hid (∀ W, Below wa.heap.size wa W → W.cell? ⟨w.heap.size, 2, none⟩ = some (.slice a.ab t.bals.length a.cb)) := Lib.hid fun W hW => by
    have c2 : wa.cell? ⟨w.heap.size, 2, none⟩ = some (.slice a.ab t.bals.length a.cb) := h0.cell 2
    exact (hW.cell (cell_block c2)).trans c2
  clear hwa hbwa h0 ht hp
  obtain ⟨Q, hQ⟩ : ∃ Q, path.all (hasBal t) = Q := ⟨_, rfl⟩
  have HQ := Lib.hid hQ
  rw [hQ]
  clear hQ
  unfold tpC at HWA
  unfold tpC
  go_enter Try.func56, Try.ntmps56
  go_upto_region 1 with fail
  rw [HWA.out]
  clear HWA
  go_wp2
  go_loopg [9] n (fun kk v wl => ∃ i : Nat, i ≤ n ∧ n - i ≤ kk ∧ v = .int .i64 i ∧ Hid (∀ m s, m < i → path[m]? = some s → hasBal t s = true) ∧ Hid (Below wa.heap.size wa wl))
  case atStart => exact ⟨0, by omega, by omega, rfl, Lib.hid fun m s h => absurd h (by omega), Lib.hid (Below.refl _ _)⟩
  case round =>
    obtain ⟨i, hi, hik, rfl, HNO, HBL⟩ := hrel
    by_cases hlt : i < n
    rotate_left
    · have y1 : ¬ (i : Int) < n := by omega
      have HF : Hid (Q = true) := Lib.hid (by
        rw [← HQ.out, List.all_eq_true]
        intro s hs
        obtain ⟨m, hm, rfl⟩ := List.getElem_of_mem hs
        exact HNO.out m _ (by have := HN.out; omega) (List.getElem?_eq_getElem hm))
      have HBF := Lib.hid (HBWA.out.trans (HBL.out.mono HBWA.out.size))
      go_wp2
      go_ret
      exact ⟨by rw [HF.out]; rfl, HBF.out⟩
    obtain ⟨x, hx⟩ : ∃ x, path[i]? = some x := ⟨_, List.getElem?_eq_getElem (by rw [HN.out]; omega)⟩
    obtain ⟨bk, off, rfl, d0, d1⟩ := (HS.out.under HBL.out).step hx
    have HX := Lib.hid hx
    have y0 : (0 : Int) ≤ i := by omega
    have y1 : (i : Int) < n := by omega
    obtain ⟨q, hq⟩ : ∃ q, hasBal t x = q := ⟨_, rfl⟩
    have hqe : (t.bals.any fun b => b.edge == x.edge) = q := hq
    have HQI := Lib.hid hq
    go_upto_region 4 with fail
    obtain ⟨wb, hwb⟩ : ∃ wb, wr.alloc (.cells #[.int .i64 x.edge, .bool x.rev] 75) = wb := ⟨_, rfl⟩
    rw [hwb]
    have hbb : Below wr.heap.size wr wb := by rw [← hwb]; exact (Below.refl _ _).alloc (Nat.le_refl _) _
    have hH : Has wb wr.heap.size 75 #[.int .i64 x.edge, .bool x.rev] := by rw [← hwb]; exact Has.made _ _ _
    have HBB := Lib.hid (HBL.out.trans (hbb.mono HBL.out.size))
    have hc0 : wb.cell? ⟨wr.heap.size, 0, none⟩ = some (.int .i64 x.edge) := hH.cell 0
    have c2 := KC.out wb HBB.out
    have HC := Lib.hid (oct_hb (fun b => b.edge == x.edge) t.bals a.ab t.bals.length a.cb wr.heap.size wb (HT.out.under HBB.out).b (by omega) (Lib.hid fun y W hW => othb_any y x.edge wr.heap.size W ((hW.cell (cell_block hc0)).trans hc0)))
    rw [hqe] at HC
    clear hwb hbb hH hc0 d0 d1 hqe hx hq
    generalize t.bals.length = mb at *
    cases q with
    | true =>
      go_wp2_with fail
      refine HC.out.mono ?_
      rintro e w1 ⟨rfl, hb1⟩
      have HB1 := Lib.hid (HBB.out.trans (hb1.mono HBB.out.size))
      have HN2 : Hid (∀ m s, m < i + 1 → path[m]? = some s → hasBal t s = true) := Lib.hid fun m s hm hs => by
        by_cases h : m = i
        · subst h; rw [HX.out] at hs; cases hs; exact HQI.out
        · exact HNO.out m s (by omega) hs
      clear hb1 HNO c2
      go_wp2
      go_roundg (gk - 1)
      case measure => omega
      case rel => exact ⟨i + 1, by omega, by omega, by go_num, HN2, HB1⟩
    | false =>
      have HF : Hid (Q = false) := Lib.hid (by rw [← HQ.out, List.all_eq_false]; exact ⟨x, List.mem_of_getElem? HX.out, by rw [HQI.out]; decide⟩)
      go_wp2_with fail
      refine HC.out.mono ?_
      rintro e w1 ⟨rfl, hb1⟩
      have HB1 := Lib.hid (HBWA.out.trans ((HBB.out.trans (hb1.mono HBB.out.size)).mono HBWA.out.size))
      clear hb1 HNO c2
      go_wp2
      go_ret
      exact ⟨by rw [HF.out]; rfl, HB1.out⟩

end Go.Proofs.Yteioefgckigbcaa
