/-
  linesidelaw13: TopoRoutes.
-/
import Derived.Test.YtkigdeohlomgiaaLawTopoBack

import Derived.Test.YtkigdeohlomgiaaToRtF

import Derived.BigQuiet

import Derived.IntWalk

namespace Go.Proofs.Ytkigdeohlomgiaa

open Go.RowKit

open Go.Great

theorem len_way {t : Tp3} {path : List St3} (h : lenE t path = 0) {k : Nat} {a b : St3} (ha : path[k]? = some a) (hb : path[k + 1]? = some b) (hall : ∀ s ∈ path, edgeB t s.edge = true) : amongB (afterL t a) b = true := by
  rw [among_iff, after_mem]
  refine ⟨hall a (List.mem_of_getElem? ha), hall b (List.mem_of_getElem? hb), ?_⟩
  unfold lenE at h
  split at h
  · exact absurd h (by decide)
  · split at h
    · split at h
      · rename_i h3
        exact way_at.1 h3 k a b ha hb
      · exact absurd h (by decide)
    · exact absurd h (by decide)
theorem nodup_apart {path : List St3} (h : (path.map (·.edge)).Nodup) {j k : Nat} {a b : St3} (hj : j < k) (ha : path[j]? = some a) (hb : path[k]? = some b) : (a.edge == b.edge) = false := by
  rw [List.nodup_iff_pairwise_ne, List.pairwise_iff_getElem] at h
  obtain ⟨h1, rfl⟩ := List.getElem?_eq_some_iff.1 ha
  obtain ⟨h2, rfl⟩ := List.getElem?_eq_some_iff.1 hb
  have := h j k (by rw [List.length_map]; exact h1) (by rw [List.length_map]; exact h2) hj
  rw [List.getElem_map, List.getElem_map] at this
  simpa using this
theorem any_take_succ {α : Type} {p : α → Bool} {l : List α} {m : Nat} {y : α} (hy : l[m]? = some y) : (l.take (m + 1)).any p = ((l.take m).any p || p y) := by
  rw [List.take_add_one, hy, List.any_append]
  simp

set_option maxRecDepth 100000 in
set_option maxHeartbeats 8000000 in
theorem topoRoutes_walk (t : Tp3) (a : TpA) (w : World) (ht : TopR w t a) (hcj : t.joints.length ≤ a.cj) :
    Calls Try.prog 5 #[.agg (tpC t a)] w fun e w' => e = .returned (.bool true) ∧ Below w.heap.size w w' := by
  obtain ⟨wa, hwa⟩ : ∃ wa, w.alloc (.cells (tpC t a) 27) = wa := ⟨_, rfl⟩
  have hbwa : Below w.heap.size w wa := by rw [← hwa]; exact (Below.refl _ _).alloc (Nat.le_refl _) _
  have h0 : Has wa (w.heap.size) 27 (tpC t a) := by rw [← hwa]; exact (Has.made _ _ _)
  have HWA := Lib.hid hwa; have HBWA := Lib.hid hbwa
  obtain ⟨n2, hn2⟩ : ∃ n, t.bals.length = n := ⟨_, rfl⟩
  obtain ⟨n3, hn3⟩ : ∃ n, t.routes.length = n := ⟨_, rfl⟩
  obtain ⟨AB, hAB⟩ : ∃ A, a.ab = A := ⟨_, rfl⟩
  obtain ⟨AR, hAR⟩ : ∃ A, a.ar = A := ⟨_, rfl⟩
  have HSB := Lib.hid (show SlO blC 3 w AB n2 a.cb t.bals from by rw [← hAB, ← hn2]; exact ht.b)
  have HSR := Lib.hid (show RtsR w AR n3 a.cr t.routes from by rw [← hAR, ← hn3]; exact ht.r)
  have KC2 := Lib.hid (fun W (hW : Below wa.heap.size wa W) => (show W.cell? ⟨w.heap.size, 2, none⟩ = some (.slice AB n2 a.cb) from by rw [← hAB, ← hn2]; exact (h0.under hW h0.lt).cell 2))
  have KC3 := Lib.hid (fun W (hW : Below wa.heap.size wa W) => (show W.cell? ⟨w.heap.size, 3, none⟩ = some (.slice AR n3 a.cr) from by rw [← hAR, ← hn3]; exact (h0.under hW h0.lt).cell 3))
  have HN2 := Lib.hid hn2; have HN3 := Lib.hid hn3
  have H0 := Lib.hid (fun W (hW : Below wa.heap.size wa W) => h0.under hW h0.lt)
  have HT := Lib.hid (fun W (hW : Below w.heap.size w W) => ht.under hW)
  have HBA := Lib.hid (fun W (hW : Below wa.heap.size wa W) => hbwa.trans (hW.mono hbwa.size))
  clear hwa hbwa h0 ht hn2 hn3 hAB hAR
  obtain ⟨q, hq⟩ : ∃ q, lightT t = q := ⟨_, rfl⟩
  have HQ := Lib.hid hq
  have HCJ := Lib.hid hcj
  clear hq hcj
  go_enter Try.func5, Try.ntmps5
  go_upto_region 1 with fail
  rw [HWA.out]
  clear HWA
  go_wp2_with fail
  refine (awake13_any wa).mono ?_
  rintro e w1 ⟨rfl, hb1⟩
  have HB1 := Lib.hid hb1
  clear hb1
  go_wp2_with (with_reducible refine wpList_load_row (o := ⟨some 16, _, _, _, _, _⟩) rfl 27 _ rfl (w.heap.size) rfl 27 (tpC t a) (0, 0) _ ((H0.out w1 HB1.out)).raw11 Try.underlying27 rfl (by kernel_rfl) ?_)
  refine (rlight_any13 t a w1 (HT.out _ (HBA.out _ HB1.out))).mono ?_
  rw [HQ.out]
  rintro e w2 ⟨rfl, hb2⟩
  have HB2 := Lib.hid (HB1.out.trans (hb2.mono HB1.out.size))
  clear hb2 HB1
  cases q with
  | false =>
    go_wp2
    go_ret
    exact ⟨by first | rfl | simp, HBA.out _ HB2.out⟩
  | true =>
    have HLN := Lib.hid (light_nums13 HQ.out)
    have k2 : n2 ≤ 100 := by have h1_ := HLN.out.2.2.1; have h2_ := HN2.out; omega
    have k3 : n3 ≤ 100 := by have h1_ := HLN.out.2.2.2.1; have h2_ := HN3.out; omega
    have HCK := Lib.hid (otp_check t a w2 (HT.out _ (HBA.out _ HB2.out)) HQ.out HCJ.out)
    obtain ⟨cE, hcE⟩ : ∃ e, checkE t = e := ⟨_, rfl⟩
    rw [hcE] at HCK
    have HCE := Lib.hid hcE
    clear hcE
    go_wp2_with ((with_reducible refine at_slot11 25 ?_); refine wpList_load_rowW11 (o := ⟨some 25, _, _, _, _, _⟩) 27 _ rfl (by kernel_rfl) (w.heap.size) rfl 27 (tpC t a) (0, 0) _ ((H0.out w2 HB2.out)).raw11 Try.underlying27 rfl (by kernel_rfl) ?_)
    refine HCK.out.mono ?_
    rintro e w3 ⟨rfl, hb3⟩
    have HB3 := Lib.hid (HB2.out.trans (hb3.mono HB2.out.size))
    clear hb3 HB2 HCK
    by_cases hz : cE = 0
    rotate_left
    · have z1 : (cE == 0) = false := by simp [hz]
      have z2 : (cE != 0) = true := by simp [hz]
      go_wp2
      go_ret
      exact ⟨by first | rfl | simp, HBA.out _ HB3.out⟩
    subst hz
    obtain ⟨hok, _, hra⟩ := check_routes HCE.out
    have HOK := Lib.hid hok; have HRA := Lib.hid hra
    clear hok hra HCE
    go_wp2
    go_loopg [5] n3 (fun kk v wl => ∃ i : Nat, i ≤ n3 ∧ n3 - i ≤ kk ∧ v = .int .i64 i ∧ Hid (Below wa.heap.size wa wl))
    case atStart => exact ⟨0, by omega, by omega, rfl, HB3⟩
    case round =>
      obtain ⟨i, hi, hik, rfl, HW⟩ := hrel
      obtain ⟨k1, hk1⟩ : ∃ k1, k1 = gk := ⟨_, rfl⟩
      subst hk1
      obtain ⟨wr1, hwr1⟩ : ∃ w_, w_ = wr := ⟨_, rfl⟩
      subst hwr1
      have c3 := KC3.out wr1 HW.out
      by_cases hlt : i < n3
      rotate_left
      · have x1 : ¬ (i : Int) < n3 := by omega
        go_wp2
        go_ret
        exact ⟨rfl, HBA.out _ HW.out⟩
      obtain ⟨x, hx⟩ : ∃ x, t.routes[i]? = some x := ⟨_, List.getElem?_eq_getElem (by rw [HN3.out]; exact hlt)⟩
      obtain ⟨hre, hrf⟩ := route_find HRA.out hx
      have HOKR := Lib.hid (route_ok hre)
      have hpl : x.path.length ≤ 8 := HOKR.out.2.2.1
      have HR3 := Lib.hid (fun W h => otp_routeF t a x.id W h HQ.out)
      have hv1 : routeR t x.id = x := by unfold routeR; rw [hrf]; rfl
      have hv2 : (routeF t x.id).isSome = true := by rw [hrf]; rfl
      simp only [hv1, hv2] at HR3
      obtain ⟨bk, off, PA, pc, rfl, hpa, d0, d1, d2, d3⟩ := (HSR.out.under (HBA.out wr1 HW.out)).at_ hx
      have HPX := Lib.hid (show PathV wr1 (.slice PA x.path.length pc) x.path from ⟨PA, pc, rfl, hpa⟩)
      have KD := Lib.hid (fun W (hW : Below wr1.heap.size wr1 W) => (show W.cell? ⟨bk, off + i * 4, none⟩ = some (.int .i64 x.id) ∧ W.cell? ⟨bk, off + i * 4 + 1, none⟩ = some (.slice PA x.path.length pc) ∧ W.cell? ⟨bk, off + i * 4 + 2, none⟩ = some (.int .i64 x.gap) ∧ W.cell? ⟨bk, off + i * 4 + 3, none⟩ = some (.int .i64 x.timer) from ⟨(hW.cell (cell_block d0)).trans d0, (hW.cell (cell_block d1)).trans d1, (hW.cell (cell_block d2)).trans d2, (hW.cell (cell_block d3)).trans d3⟩))
      have y0 : (0 : Int) ≤ i := by omega
      have y1 : (i : Int) < n3 := by omega
      clear hx hre hrf hv1 hv2 hpa d0 d1 d2 d3
      go_upto_region 8 with fail
      clear c3
      go_cut [6, 7] (fun s6 s7 wx => ∃ (gx : Nat) (A5 : Option Addr) (c5 : Nat), s6 = .pointer (some ⟨gx, 0, none⟩) ∧ s7 = .bool true ∧ Hid (Has wx gx 36 (rtA x (.slice A5 x.path.length c5))) ∧ Hid (SlO stC 2 wx A5 x.path.length c5 x.path) ∧ Hid (Below wr1.heap.size wr1 wx))
      case first =>
        refine wp_region_held_drew (S := (fun W_ => Has W_ (w.heap.size) 27 (tpC t a) ∧ Below wr1.heap.size wr1 W_)) (by kernel_rfl) ?_ (fun hHeld => ?_)
        · exact ⟨(H0.out _ HW.out).draw, below_dr11 (Below.refl _ _)⟩
        refine wpAnyH_take (i := 0) (oi := ⟨some 38, _, _, _, _, _⟩) (v := .agg (tpC t a)) rfl (by kernel_rfl) (by kernel_rfl) (by kernel_rfl) (fun _ _ _ h => h) (yields_load_row11 27 _ rfl (w.heap.size) rfl 27 (tpC t a) _ (fun _ ⟨h_, _⟩ => h_) Try.underlying27 rfl (by kernel_rfl) (by rfl)) (by assumption) ?_
        simp only [Act.put, List.setIfInBounds_toArray, List.set_cons_zero, List.set_cons_succ]
        refine wpAnyH_take (i := 1) (oi := ⟨some 39, _, _, _, _, _⟩) (v := ?_) rfl (by kernel_rfl) (by kernel_rfl) (by kernel_rfl) (fun _ _ _ h => h) (Or.inl ⟨by rfl, ?_⟩) (by assumption) ?_
        rotate_left
        · intro w_ hSw; (try dsimp only at hSw); go_simp <;> with_reducible rfl
        simp only [Act.put, List.setIfInBounds_toArray, List.set_cons_zero, List.set_cons_succ]
        refine wpAnyH_take (i := 2) (oi := ⟨some 40, _, _, _, _, _⟩) (v := ?_) rfl (by kernel_rfl) (by kernel_rfl) (by kernel_rfl) (fun _ _ _ h => h) (Or.inl ⟨by rfl, ?_⟩) (by assumption) ?_
        rotate_left
        · intro w_ hSw; (try dsimp only at hSw); have c3_ := KC3.out w_ (HW.out.trans (hSw.2.mono HW.out.size)); go_simp <;> with_reducible rfl
        simp only [Act.put, List.setIfInBounds_toArray, List.set_cons_zero, List.set_cons_succ]
        refine wpAnyH_take (i := 3) (oi := ⟨some 41, _, _, _, _, _⟩) (v := ?_) rfl (by kernel_rfl) (by kernel_rfl) (by kernel_rfl) (fun _ _ _ h => h) (Or.inl ⟨by rfl, ?_⟩) (by assumption) ?_
        rotate_left
        · intro w_ hSw; (try dsimp only at hSw); go_simp <;> with_reducible rfl
        simp only [Act.put, List.setIfInBounds_toArray, List.set_cons_zero, List.set_cons_succ]
        refine wpAnyH_take (i := 4) (oi := ⟨some 42, _, _, _, _, _⟩) (v := ?_) rfl (by kernel_rfl) (by kernel_rfl) (by kernel_rfl) (fun _ _ _ h => h) (Or.inl ⟨by rfl, ?_⟩) (by assumption) ?_
        rotate_left
        · intro w_ hSw; (try dsimp only at hSw); go_simp <;> with_reducible rfl
        simp only [Act.put, List.setIfInBounds_toArray, List.set_cons_zero, List.set_cons_succ]
        refine wpAnyH_take (i := 5) (oi := ⟨some 43, _, _, _, _, _⟩) (v := ?_) rfl (by kernel_rfl) (by kernel_rfl) (by kernel_rfl) (fun _ _ _ h => h) (Or.inl ⟨by rfl, ?_⟩) (by assumption) ?_
        rotate_left
        · intro w_ hSw; (try dsimp only at hSw); go_simp <;> with_reducible rfl
        simp only [Act.put, List.setIfInBounds_toArray, List.set_cons_zero, List.set_cons_succ]
        refine wpAnyH_take (i := 6) (oi := ⟨some 44, _, _, _, _, _⟩) (v := ?_) rfl (by kernel_rfl) (by kernel_rfl) (by kernel_rfl) (fun _ _ _ h => h) (Or.inl ⟨by rfl, ?_⟩) (by assumption) ?_
        rotate_left
        · intro w_ hSw; (try dsimp only at hSw); obtain ⟨cx0_, cx1_, cx2_, cx3_⟩ := KD.out w_ hSw.2; go_simp <;> with_reducible rfl
        simp only [Act.put, List.setIfInBounds_toArray, List.set_cons_zero, List.set_cons_succ]
        refine wpAnyH_ready (rs := [7, 11]) (by kernel_rfl) (by simp) ?_
        refine AllReadyH.cons (o := ⟨some 45, _, _, _, _, _⟩) rfl (fun K hK => ?_) ?_
        · go_simp
          obtain ⟨s0, s1⟩ := hHeld
          have hlo_ := HBA.out _ (HW.out.trans (s1.mono HW.out.size))
          refine (HR3.out _ (HT.out _ hlo_)).mono ?_
          rintro e_ v5 ⟨A5, c5, hs5, hfr, rfl, hbs⟩
          go_wp2_with fail
          refine hK.out _ _ ?_ (fun hHeld => ?_)
          · exact ⟨s0.under hbs s0.lt, s1.trans (hbs.mono s1.size)⟩
          refine wpAnyH_more11 (T := (fun W_ => Has W_ (w.heap.size) 27 (tpC t a) ∧ Below wr1.heap.size wr1 W_ ∧ SlO stC 2 W_ A5 (x.path.length) c5 (x.path))) (fun _ ⟨s0, s1, s2⟩ => ⟨s0, s1⟩) ?_
          have hHeld2 : (fun W_ => Has W_ (w.heap.size) 27 (tpC t a) ∧ Below wr1.heap.size wr1 W_ ∧ SlO stC 2 W_ A5 (x.path.length) c5 (x.path)) _ := ⟨s0.under hbs s0.lt, s1.trans (hbs.mono s1.size), hs5⟩
          clear hHeld
          have hHeld := hHeld2
          clear hHeld2
          clear hK K s0 s1
          try simp only [Act.put, List.setIfInBounds_toArray, List.set_cons_zero, List.set_cons_succ]
          refine wpAnyH_take (i := 8) (oi := ⟨some 37, _, _, _, _, _⟩) (v := ?_) rfl (by kernel_rfl) (by kernel_rfl) (by kernel_rfl) (fun _ _ _ h => h) (Or.inl ⟨by rfl, ?_⟩) (by assumption) ?_
          rotate_left
          · intro w_ hSw; (try dsimp only at hSw); go_simp <;> with_reducible rfl
          simp only [Act.put, List.setIfInBounds_toArray, List.set_cons_zero, List.set_cons_succ]
          refine wpAnyH_take (i := 9) (oi := ⟨some 46, _, _, _, _, _⟩) (v := ?_) rfl (by kernel_rfl) (by kernel_rfl) (by kernel_rfl) (fun _ _ _ h => h) (Or.inl ⟨by rfl, ?_⟩) (by assumption) ?_
          rotate_left
          · intro w_ hSw; (try dsimp only at hSw); go_simp <;> with_reducible rfl
          simp only [Act.put, List.setIfInBounds_toArray, List.set_cons_zero, List.set_cons_succ]
          refine wpAnyH_take (i := 10) (oi := ⟨some 47, _, _, _, _, _⟩) (v := ?_) rfl (by kernel_rfl) (by kernel_rfl) (by kernel_rfl) (fun _ _ _ h => h) (Or.inl ⟨by rfl, ?_⟩) (by assumption) ?_
          rotate_left
          · intro w_ hSw; (try dsimp only at hSw); go_simp <;> with_reducible rfl
          simp only [Act.put, List.setIfInBounds_toArray, List.set_cons_zero, List.set_cons_succ]
          refine wpAnyH_ready (rs := [11]) (by kernel_rfl) (by simp) ?_
          refine AllReadyH.cons (o := ⟨some 6, _, _, _, _, _⟩) rfl (fun K hK => ?_) ?_
          · go_simp
            obtain ⟨s0, s1, s2⟩ := hHeld
            obtain ⟨gx, hgx⟩ : ∃ gx, v5.heap.size = gx := ⟨_, rfl⟩
            have hgl : w.heap.size < gx := by rw [← hgx]; exact s0.lt
            have hgl2 : wr1.heap.size ≤ gx := by rw [← hgx]; exact s1.size
            have hgxle : v5.heap.size ≤ gx := Nat.le_of_eq hgx
            rw [hgx]
            refine hK.out _ _ ?_ (fun hHeld => ?_)
            · exact ⟨s0.beside _, below_al11 s1 _, (s2.under ((Below.refl _ _).alloc (Nat.le_refl _) _))⟩
            refine wpAnyH_more11 (T := (fun W_ => Has W_ (w.heap.size) 27 (tpC t a) ∧ Below wr1.heap.size wr1 W_ ∧ SlO stC 2 W_ A5 (x.path.length) c5 (x.path) ∧ (∃ o_ : Array Value, Has W_ (gx) 36 o_ ∧ o_.size = 4))) (fun _ ⟨s0, s1, s2, s3⟩ => ⟨s0, s1, s2⟩) ?_
            have hHeld2 : (fun W_ => Has W_ (w.heap.size) 27 (tpC t a) ∧ Below wr1.heap.size wr1 W_ ∧ SlO stC 2 W_ A5 (x.path.length) c5 (x.path) ∧ (∃ o_ : Array Value, Has W_ (gx) 36 o_ ∧ o_.size = 4)) _ := ⟨s0.beside (.cells #[.int .i64 0, .slice none 0 0, .int .i64 0, .int .i64 0] 36), below_al11 s1 (.cells #[.int .i64 0, .slice none 0 0, .int .i64 0, .int .i64 0] 36), (s2.under ((Below.refl _ _).alloc (Nat.le_refl _) (.cells #[.int .i64 0, .slice none 0 0, .int .i64 0, .int .i64 0] 36))), ⟨#[.int .i64 0, .slice none 0 0, .int .i64 0, .int .i64 0], (by rw [← hgx]; exact Has.made _ _ _), by kernel_rfl⟩⟩
            clear hHeld
            have hHeld := hHeld2
            clear hHeld2 hK K hgx s0 s1 s2
            try simp only [Act.put, List.setIfInBounds_toArray, List.set_cons_zero, List.set_cons_succ]
            refine wpAnyH_ready (rs := [12]) (by kernel_rfl) (by simp) ?_
            refine AllReadyH.cons (o := ⟨none, _, _, _, _, _⟩) rfl (fun K hK => ?_) ?_
            · rw [if_pos (by rfl)]
              obtain ⟨s0, s1, s2, s3⟩ := hHeld
              obtain ⟨o_, h_, e_⟩ := s3
              refine wp_store_row 36 _ _ rfl (gx) (rtA x (.slice A5 x.path.length c5)) (by rfl) (by rfl) 36 o_ h_.raw11 (by kernel_rfl) e_ (by kernel_rfl) ?_
              refine hK.out _ _ ?_ (fun hHeld => ?_)
              · exact ⟨has_rowo11 s0 (by omega) _, below_row s1 (by omega) _, ⟨s2.1, sl_row11 s2.2 (fun a_ ha_ => by first | (have h1_ := (hfr a_ ha_).2; have h2_ := hgxle; omega) | (have h1_ := (hfr a_ ha_).1; have h2_ := hgw_; omega)) _⟩, ⟨_, has_row11 h_ (rtA x (.slice A5 x.path.length c5)), by kernel_rfl⟩⟩
              refine wpAnyH_more11 (T := (fun W_ => Has W_ (w.heap.size) 27 (tpC t a) ∧ Below wr1.heap.size wr1 W_ ∧ SlO stC 2 W_ A5 (x.path.length) c5 (x.path) ∧ Has W_ (gx) 36 (rtA x (.slice A5 x.path.length c5)))) (fun _ ⟨s0, s1, s2, s3⟩ => ⟨s0, s1, s2, ⟨_, s3, by kernel_rfl⟩⟩) ?_
              have hHeld2 : (fun W_ => Has W_ (w.heap.size) 27 (tpC t a) ∧ Below wr1.heap.size wr1 W_ ∧ SlO stC 2 W_ A5 (x.path.length) c5 (x.path) ∧ Has W_ (gx) 36 (rtA x (.slice A5 x.path.length c5))) _ := ⟨has_rowo11 s0 (by omega) _, below_row s1 (by omega) _, ⟨s2.1, sl_row11 s2.2 (fun a_ ha_ => by first | (have h1_ := (hfr a_ ha_).2; have h2_ := hgxle; omega) | (have h1_ := (hfr a_ ha_).1; have h2_ := hgw_; omega)) _⟩, has_row11 h_ (rtA x (.slice A5 x.path.length c5))⟩
              clear hHeld
              have hHeld := hHeld2
              clear hHeld2 hK K h_ e_ s0 s1 s2
              try simp only [Act.put]
              refine wpAnyH_take (i := 13) (oi := ⟨some 7, _, _, _, _, _⟩) (v := ?_) rfl (by kernel_rfl) (by kernel_rfl) (by kernel_rfl) (fun _ _ _ h => h) (Or.inl ⟨by rfl, ?_⟩) (by assumption) ?_
              rotate_left
              · intro w_ hSw; (try dsimp only at hSw); go_simp <;> with_reducible rfl
              simp only [Act.put, List.setIfInBounds_toArray, List.set_cons_zero, List.set_cons_succ]
              refine wpAnyH_done (by kernel_rfl) ?_ _
              obtain ⟨s0, s1, s2, s3⟩ := hHeld
              have F1 := Lib.hid s3; have F2 := Lib.hid s2; have F3 := Lib.hid s1
              clear s0 s1 s2 s3
              go_wp2_with fail
              go_meet
              exact ⟨gx, A5, c5, rfl, rfl, F1, F2, F3⟩
            exact AllReadyH.nil
          exact AllReadyH.nil
        refine AllReadyH.cons (o := ⟨some 6, _, _, _, _, _⟩) rfl (fun K hK => ?_) ?_
        · go_simp
          obtain ⟨s0, s1⟩ := hHeld
          obtain ⟨gx, hgx⟩ : ∃ gx, wr1.heap.size = gx := ⟨_, rfl⟩
          have hgl : w.heap.size < gx := by rw [← hgx]; exact s0.lt
          have hgl2 : wr1.heap.size ≤ gx := by rw [← hgx]; exact s1.size
          have hgxle : wr1.heap.size ≤ gx := Nat.le_of_eq hgx
          rw [hgx]
          refine hK.out _ _ ?_ (fun hHeld => ?_)
          · exact ⟨s0.beside _, below_al11 s1 _⟩
          refine wpAnyH_more11 (T := (fun W_ => Has W_ (w.heap.size) 27 (tpC t a) ∧ Below wr1.heap.size wr1 W_ ∧ (∃ o_ : Array Value, Has W_ (gx) 36 o_ ∧ o_.size = 4))) (fun _ ⟨s0, s1, s2⟩ => ⟨s0, s1⟩) ?_
          have hHeld2 : (fun W_ => Has W_ (w.heap.size) 27 (tpC t a) ∧ Below wr1.heap.size wr1 W_ ∧ (∃ o_ : Array Value, Has W_ (gx) 36 o_ ∧ o_.size = 4)) _ := ⟨s0.beside (.cells #[.int .i64 0, .slice none 0 0, .int .i64 0, .int .i64 0] 36), below_al11 s1 (.cells #[.int .i64 0, .slice none 0 0, .int .i64 0, .int .i64 0] 36), ⟨#[.int .i64 0, .slice none 0 0, .int .i64 0, .int .i64 0], (by rw [← hgx]; exact Has.made _ _ _), by kernel_rfl⟩⟩
          clear hHeld
          have hHeld := hHeld2
          clear hHeld2 hK K hgx s0 s1
          try simp only [Act.put, List.setIfInBounds_toArray, List.set_cons_zero, List.set_cons_succ]
          refine wpAnyH_ready (rs := [7]) (by kernel_rfl) (by simp) ?_
          refine AllReadyH.cons (o := ⟨some 45, _, _, _, _, _⟩) rfl (fun K hK => ?_) ?_
          · go_simp
            obtain ⟨s0, s1, s2⟩ := hHeld
            have hlo_ := HBA.out _ (HW.out.trans (s1.mono HW.out.size))
            have hgw_ := (let ⟨_, h_, _⟩ := s2; h_.lt)
            refine (HR3.out _ (HT.out _ hlo_)).mono ?_
            rintro e_ v5 ⟨A5, c5, hs5, hfr, rfl, hbs⟩
            go_wp2_with fail
            refine hK.out _ _ ?_ (fun hHeld => ?_)
            · exact ⟨s0.under hbs s0.lt, s1.trans (hbs.mono s1.size), (let ⟨o_, h_, e_⟩ := s2; ⟨o_, h_.under hbs h_.lt, e_⟩)⟩
            refine wpAnyH_more11 (T := (fun W_ => Has W_ (w.heap.size) 27 (tpC t a) ∧ Below wr1.heap.size wr1 W_ ∧ (∃ o_ : Array Value, Has W_ (gx) 36 o_ ∧ o_.size = 4) ∧ SlO stC 2 W_ A5 (x.path.length) c5 (x.path))) (fun _ ⟨s0, s1, s2, s3⟩ => ⟨s0, s1, s2⟩) ?_
            have hHeld2 : (fun W_ => Has W_ (w.heap.size) 27 (tpC t a) ∧ Below wr1.heap.size wr1 W_ ∧ (∃ o_ : Array Value, Has W_ (gx) 36 o_ ∧ o_.size = 4) ∧ SlO stC 2 W_ A5 (x.path.length) c5 (x.path)) _ := ⟨s0.under hbs s0.lt, s1.trans (hbs.mono s1.size), (let ⟨o_, h_, e_⟩ := s2; ⟨o_, h_.under hbs h_.lt, e_⟩), hs5⟩
            clear hHeld
            have hHeld := hHeld2
            clear hHeld2
            clear hK K s0 s1 s2
            try simp only [Act.put, List.setIfInBounds_toArray, List.set_cons_zero, List.set_cons_succ]
            refine wpAnyH_take (i := 8) (oi := ⟨some 37, _, _, _, _, _⟩) (v := ?_) rfl (by kernel_rfl) (by kernel_rfl) (by kernel_rfl) (fun _ _ _ h => h) (Or.inl ⟨by rfl, ?_⟩) (by assumption) ?_
            rotate_left
            · intro w_ hSw; (try dsimp only at hSw); go_simp <;> with_reducible rfl
            simp only [Act.put, List.setIfInBounds_toArray, List.set_cons_zero, List.set_cons_succ]
            refine wpAnyH_take (i := 9) (oi := ⟨some 46, _, _, _, _, _⟩) (v := ?_) rfl (by kernel_rfl) (by kernel_rfl) (by kernel_rfl) (fun _ _ _ h => h) (Or.inl ⟨by rfl, ?_⟩) (by assumption) ?_
            rotate_left
            · intro w_ hSw; (try dsimp only at hSw); go_simp <;> with_reducible rfl
            simp only [Act.put, List.setIfInBounds_toArray, List.set_cons_zero, List.set_cons_succ]
            refine wpAnyH_take (i := 10) (oi := ⟨some 47, _, _, _, _, _⟩) (v := ?_) rfl (by kernel_rfl) (by kernel_rfl) (by kernel_rfl) (fun _ _ _ h => h) (Or.inl ⟨by rfl, ?_⟩) (by assumption) ?_
            rotate_left
            · intro w_ hSw; (try dsimp only at hSw); go_simp <;> with_reducible rfl
            simp only [Act.put, List.setIfInBounds_toArray, List.set_cons_zero, List.set_cons_succ]
            refine wpAnyH_ready (rs := [12]) (by kernel_rfl) (by simp) ?_
            refine AllReadyH.cons (o := ⟨none, _, _, _, _, _⟩) rfl (fun K hK => ?_) ?_
            · rw [if_pos (by rfl)]
              obtain ⟨s0, s1, s2, s3⟩ := hHeld
              obtain ⟨o_, h_, e_⟩ := s2
              refine wp_store_row 36 _ _ rfl (gx) (rtA x (.slice A5 x.path.length c5)) (by rfl) (by rfl) 36 o_ h_.raw11 (by kernel_rfl) e_ (by kernel_rfl) ?_
              refine hK.out _ _ ?_ (fun hHeld => ?_)
              · exact ⟨has_rowo11 s0 (by omega) _, below_row s1 (by omega) _, ⟨_, has_row11 h_ (rtA x (.slice A5 x.path.length c5)), by kernel_rfl⟩, ⟨s3.1, sl_row11 s3.2 (fun a_ ha_ => by first | (have h1_ := (hfr a_ ha_).2; have h2_ := hgxle; omega) | (have h1_ := (hfr a_ ha_).1; have h2_ := hgw_; omega)) _⟩⟩
              refine wpAnyH_more11 (T := (fun W_ => Has W_ (w.heap.size) 27 (tpC t a) ∧ Below wr1.heap.size wr1 W_ ∧ Has W_ (gx) 36 (rtA x (.slice A5 x.path.length c5)) ∧ SlO stC 2 W_ A5 (x.path.length) c5 (x.path))) (fun _ ⟨s0, s1, s2, s3⟩ => ⟨s0, s1, ⟨_, s2, by kernel_rfl⟩, s3⟩) ?_
              have hHeld2 : (fun W_ => Has W_ (w.heap.size) 27 (tpC t a) ∧ Below wr1.heap.size wr1 W_ ∧ Has W_ (gx) 36 (rtA x (.slice A5 x.path.length c5)) ∧ SlO stC 2 W_ A5 (x.path.length) c5 (x.path)) _ := ⟨has_rowo11 s0 (by omega) _, below_row s1 (by omega) _, has_row11 h_ (rtA x (.slice A5 x.path.length c5)), ⟨s3.1, sl_row11 s3.2 (fun a_ ha_ => by first | (have h1_ := (hfr a_ ha_).2; have h2_ := hgxle; omega) | (have h1_ := (hfr a_ ha_).1; have h2_ := hgw_; omega)) _⟩⟩
              clear hHeld
              have hHeld := hHeld2
              clear hHeld2 hK K h_ e_ s0 s1 s3
              try simp only [Act.put]
              refine wpAnyH_take (i := 13) (oi := ⟨some 7, _, _, _, _, _⟩) (v := ?_) rfl (by kernel_rfl) (by kernel_rfl) (by kernel_rfl) (fun _ _ _ h => h) (Or.inl ⟨by rfl, ?_⟩) (by assumption) ?_
              rotate_left
              · intro w_ hSw; (try dsimp only at hSw); go_simp <;> with_reducible rfl
              simp only [Act.put, List.setIfInBounds_toArray, List.set_cons_zero, List.set_cons_succ]
              refine wpAnyH_done (by kernel_rfl) ?_ _
              obtain ⟨s0, s1, s2, s3⟩ := hHeld
              have F1 := Lib.hid s2; have F2 := Lib.hid s3; have F3 := Lib.hid s1
              clear s0 s1 s2 s3
              go_wp2_with fail
              go_meet
              exact ⟨gx, A5, c5, rfl, rfl, F1, F2, F3⟩
            exact AllReadyH.nil
          exact AllReadyH.nil
        exact AllReadyH.nil
      case rest =>
        obtain ⟨gx, A5, c5, rfl, rfl, HX5, HP5, HB5⟩ := hcut
        obtain ⟨w5, hw5⟩ : ∃ w_, w_ = wc := ⟨_, rfl⟩
        subst hw5
        have HW5 := Lib.hid (HW.out.trans (HB5.out.mono HW.out.size))
        have HCS := Lib.hid (fun W (hW : Below w5.heap.size w5 W) => rsame_any13 x x (.slice A5 x.path.length c5) (.slice PA x.path.length pc) W (PathV.under ⟨A5, c5, rfl, HP5.out⟩ hW) ((HPX.out.under HB5.out).under hW) (by omega))
        rw [show sameR x x = true from (sameR_iff x x).2 rfl] at HCS
        go_upto_region 9 with fail
        refine wp_region_held_drew (S := (fun W_ => Has W_ (gx) 36 (rtA x (.slice A5 x.path.length c5)) ∧ Below w5.heap.size w5 W_)) (by kernel_rfl) ?_ (fun hHeld => ?_)
        · exact ⟨HX5.out.draw, below_dr11 (Below.refl _ _)⟩
        refine wpAnyH_take (i := 0) (oi := ⟨some 48, _, _, _, _, _⟩) (v := .agg (rtA x (.slice A5 x.path.length c5))) rfl (by kernel_rfl) (by kernel_rfl) (by kernel_rfl) (fun _ _ _ h => h) (yields_load_row11 36 _ rfl (gx) rfl 36 (rtA x (.slice A5 x.path.length c5)) _ (fun _ ⟨h_, _⟩ => h_) Try.underlying36 rfl (by kernel_rfl) (by rfl)) (by assumption) ?_
        simp only [Act.put, List.setIfInBounds_toArray, List.set_cons_zero, List.set_cons_succ]
        refine wpAnyH_take (i := 1) (oi := ⟨some 49, _, _, _, _, _⟩) (v := ?_) rfl (by kernel_rfl) (by kernel_rfl) (by kernel_rfl) (fun _ _ _ h => h) (Or.inl ⟨by rfl, ?_⟩) (by assumption) ?_
        rotate_left
        · intro w_ hSw; (try dsimp only at hSw); go_simp <;> with_reducible rfl
        simp only [Act.put, List.setIfInBounds_toArray, List.set_cons_zero, List.set_cons_succ]
        refine wpAnyH_take (i := 2) (oi := ⟨some 50, _, _, _, _, _⟩) (v := ?_) rfl (by kernel_rfl) (by kernel_rfl) (by kernel_rfl) (fun _ _ _ h => h) (Or.inl ⟨by rfl, ?_⟩) (by assumption) ?_
        rotate_left
        · intro w_ hSw; (try dsimp only at hSw); have c3_ := KC3.out w_ (HW5.out.trans (hSw.2.mono HW5.out.size)); go_simp <;> with_reducible rfl
        simp only [Act.put, List.setIfInBounds_toArray, List.set_cons_zero, List.set_cons_succ]
        refine wpAnyH_take (i := 3) (oi := ⟨some 51, _, _, _, _, _⟩) (v := ?_) rfl (by kernel_rfl) (by kernel_rfl) (by kernel_rfl) (fun _ _ _ h => h) (Or.inl ⟨by rfl, ?_⟩) (by assumption) ?_
        rotate_left
        · intro w_ hSw; (try dsimp only at hSw); go_simp <;> with_reducible rfl
        simp only [Act.put, List.setIfInBounds_toArray, List.set_cons_zero, List.set_cons_succ]
        refine wpAnyH_take (i := 4) (oi := ⟨some 52, _, _, _, _, _⟩) (v := ?_) rfl (by kernel_rfl) (by kernel_rfl) (by kernel_rfl) (fun _ _ _ h => h) (Or.inl ⟨by rfl, ?_⟩) (by assumption) ?_
        rotate_left
        · intro w_ hSw; (try dsimp only at hSw); go_simp <;> with_reducible rfl
        simp only [Act.put, List.setIfInBounds_toArray, List.set_cons_zero, List.set_cons_succ]
        refine wpAnyH_take (i := 5) (oi := ⟨some 53, _, _, _, _, _⟩) (v := ?_) rfl (by kernel_rfl) (by kernel_rfl) (by kernel_rfl) (fun _ _ _ h => h) (Or.inl ⟨by rfl, ?_⟩) (by assumption) ?_
        rotate_left
        · intro w_ hSw; (try dsimp only at hSw); obtain ⟨cx0_, cx1_, cx2_, cx3_⟩ := KD.out w_ (HB5.out.trans (hSw.2.mono HB5.out.size)); go_simp <;> with_reducible rfl
        simp only [Act.put, List.setIfInBounds_toArray, List.set_cons_zero, List.set_cons_succ]
        refine wpAnyH_ready (rs := [6]) (by kernel_rfl) (by simp) ?_
        refine AllReadyH.cons (o := ⟨some 54, _, _, _, _, _⟩) rfl (fun K hK => ?_) ?_
        · go_simp
          obtain ⟨s0, s1⟩ := hHeld
          have hk_ := HCS.out _ s1
          unfold rtA at hk_
          refine hk_.mono ?_
          rintro e_ w6 ⟨rfl, hbs⟩
          go_wp2_with fail
          refine hK.out _ _ ?_ (fun hHeld => ?_)
          · exact ⟨s0.under hbs s0.lt, s1.trans (hbs.mono s1.size)⟩
          clear hK K s0 s1
          try simp only [Act.put, List.setIfInBounds_toArray, List.set_cons_zero, List.set_cons_succ]
          refine wpAnyH_take (i := 7) (oi := ⟨some 8, _, _, _, _, _⟩) (v := ?_) rfl (by kernel_rfl) (by kernel_rfl) (by kernel_rfl) (fun _ _ _ h => h) (Or.inl ⟨by rfl, ?_⟩) (by assumption) ?_
          rotate_left
          · intro w_ hSw; (try dsimp only at hSw); go_simp <;> with_reducible rfl
          simp only [Act.put, List.setIfInBounds_toArray, List.set_cons_zero, List.set_cons_succ]
          refine wpAnyH_done (by kernel_rfl) ?_ _
          have HX6 := Lib.hid hHeld.1
          have HW6 := Lib.hid (HW5.out.trans (hHeld.2.mono HW5.out.size))
          have HP6 := Lib.hid (HP5.out.under hHeld.2)
          clear hHeld HX5 HP5 HB5 HW5 HCS KD HPX HR3
          obtain ⟨pl, hpl0⟩ : ∃ n, x.path.length = n := ⟨_, rfl⟩
          have HPN := Lib.hid hpl0
          have e1 : w6.cell? ⟨gx, 1, none⟩ = some (.slice A5 pl c5) := by rw [← hpl0]; exact HX6.out.cell 1
          have HLE := Lib.hid (otp_length t a x.path A5 x.path.length c5 w6 (HT.out _ (HBA.out _ HW6.out)) HP6.out (by omega) HQ.out HOK.out)
          have hle : lenE t x.path = 0 := HOKR.out.2.2.2.2.2.1
          obtain ⟨ln, hln⟩ : ∃ n, lenN t x.path = n := ⟨_, rfl⟩
          rw [hle, hln, hpl0] at HLE
          have HGP : Hid (x.gap < ln) := Lib.hid (by rw [← hln]; exact HOKR.out.2.2.2.2.2.2.2.1)
          rw [hpl0] at hpl
          clear hle hln hpl0
          go_upto_region 10 with fail
          go_wp2_with (with_reducible refine wpList_load_row (o := ⟨some 56, _, _, _, _, _⟩) rfl 27 _ rfl (w.heap.size) rfl 27 (tpC t a) (0, 0) _ ((H0.out w6 HW6.out)).raw11 Try.underlying27 rfl (by kernel_rfl) ?_)
          refine HLE.out.mono ?_
          rintro e w7 ⟨rfl, hb7⟩
          have HX7 := Lib.hid (HX6.out.under hb7 HX6.out.lt)
          have HW7 := Lib.hid (HW6.out.trans (hb7.mono HW6.out.size))
          have HP7 := Lib.hid (HP6.out.under hb7)
          clear hb7 HX6 HW6 HP6 HLE e1
          have e1 : w7.cell? ⟨gx, 1, none⟩ = some (.slice A5 pl c5) := by rw [← HPN.out]; exact HX7.out.cell 1
          have e2 : w7.cell? ⟨gx, 2, none⟩ = some (.int .i64 x.gap) := HX7.out.cell 2
          have z1 : ¬ ln ≤ x.gap := by have := HGP.out; omega
          have z2 : ¬ (pl : Int) > 8 := by omega
          go_upto_region 13 with fail
          clear e1 e2 z1 z2 HGP
          have KE1 : Hid (∀ W, Below w7.heap.size w7 W → W.cell? ⟨gx, 1, none⟩ = some (.slice A5 pl c5)) := Lib.hid fun W hW => by rw [← HPN.out]; exact (HX7.out.under hW HX7.out.lt).cell 1
          go_wp2
          go_loopg [11] pl (fun kk v wl => ∃ k : Nat, k ≤ pl ∧ pl - k ≤ kk ∧ v = .int .i64 k ∧ Hid (Below w7.heap.size w7 wl))
          case atStart => exact ⟨0, by omega, by omega, rfl, Lib.hid (Below.refl _ _)⟩
          case round =>
            obtain ⟨k, hk, hkk, rfl, HB⟩ := hrel
            obtain ⟨k2', hk2⟩ : ∃ k_, k_ = gk := ⟨_, rfl⟩
            subst hk2
            obtain ⟨wr2, hwr2⟩ : ∃ w_, w_ = wr := ⟨_, rfl⟩
            subst hwr2
            have HWW := Lib.hid (HW7.out.trans (HB.out.mono HW7.out.size))
            have e1 := KE1.out wr2 HB.out
            by_cases hkl : k < pl
            rotate_left
            · have x1 : ¬ (k : Int) < pl := by omega
              go_wp2
              go_roundg (k1 - 1)
              case measure => omega
              case rel => exact ⟨i + 1, by omega, by omega, by go_num, HWW⟩
            obtain ⟨s, hs⟩ : ∃ s, x.path[k]? = some s := ⟨_, List.getElem?_eq_getElem (by rw [HPN.out]; exact hkl)⟩
            have HS := Lib.hid hs
            obtain ⟨pk, po, rfl, -, -⟩ := HP7.out.step hs
            have KS := Lib.hid (fun W (hW : Below w7.heap.size w7 W) => (show W.cell? ⟨pk, po + k * 2, none⟩ = some (.int .i64 s.edge) ∧ W.cell? ⟨pk, po + k * 2 + 1, none⟩ = some (.bool s.rev) from by obtain ⟨b_, o_, e_, h1_, h2_⟩ := (HP7.out.under hW).step hs; injection e_ with e_; injection e_ with e1_ e2_ _; subst e1_ e2_; exact ⟨h1_, h2_⟩))
            have y2 : (0 : Int) ≤ k := by omega
            have y3 : (k : Int) < pl := by omega
            have hb_ : hasBal t s = true := HOKR.out.2.2.2.2.2.2.2.2 s (List.mem_of_getElem? hs)
            have HHB := Lib.hid hb_
            clear hs hb_
            have KC2' := Lib.hid (fun W (hW : Below wr2.heap.size wr2 W) => KC2.out W (HWW.out.trans (hW.mono HWW.out.size)))
            go_wp2
            go_loopg [12, 13] n2 (fun kk v12 v13 wl => ∃ m q : Nat, m ≤ n2 ∧ n2 - m ≤ kk ∧ v13 = .int .i64 m ∧ v12 = .bool ((t.bals.take m).any fun b => b.edge == s.edge) ∧ wl = wr2.drewN q)
            case atStart => exact ⟨0, 0, by omega, by omega, rfl, by simp, rfl⟩
            case round =>
              obtain ⟨m, q, hm, hmk, rfl, rfl, rfl⟩ := hrel
              have c2 := KC2'.out wr2 (Below.refl _ _)
              by_cases hml : m < n2
              rotate_left
              · obtain rfl : m = n2 := by omega
                have x2 : ¬ (m : Int) < m := by omega
                have hta : ((t.bals.take m).any fun b => b.edge == s.edge) = true := by rw [List.take_of_length_le (by have := HN2.out; omega)]; exact HHB.out
                rw [hta]
                clear hta hm hmk
                obtain ⟨w8, hw8⟩ : ∃ w_, wr2.drewN q = w_ := ⟨_, rfl⟩
                rw [hw8]
                have hb8 : Below wr2.heap.size wr2 w8 := by rw [← hw8]; exact below_draws (Below.refl _ _) q
                have HB8 := Lib.hid (HB.out.trans (hb8.mono HB.out.size))
                have HW8 := Lib.hid (HW7.out.trans (HB8.out.mono HW7.out.size))
                clear hw8 hb8 c2
                have c2 := KC2.out w8 HW8.out
                go_upto_region 21 with fail
                clear x2 c2
                by_cases hk0 : k = 0
                · have hkz : ¬ (k : Int) > 0 := by omega
                  have hkz2 : decide ((k : Int) > 0) = false := decide_eq_false hkz
                  have hkz3 : ¬ 0 < k := by omega
                  have hkz4 : decide (0 < k) = false := decide_eq_false hkz3
                  have HK0 := Lib.hid hk0
                  clear hk0
                  refine wp_region_held_drew (S := (fun W_ => Has W_ (gx) 36 (rtA x (.slice (some ⟨pk, po, none⟩) x.path.length c5)) ∧ Has W_ (w.heap.size) 27 (tpC t a) ∧ Below w8.heap.size w8 W_)) (by kernel_rfl) ?_ (fun hHeld => ?_)
                  · exact ⟨(HX7.out.under HB8.out HX7.out.lt).draw, (H0.out _ HW8.out).draw, below_dr11 (Below.refl _ _)⟩
                  refine wpAnyH_take (i := 0) (oi := ⟨some 114, _, _, _, _, _⟩) (v := ?_) rfl (by kernel_rfl) (by kernel_rfl) (by kernel_rfl) (fun _ _ _ h => h) (Or.inl ⟨by rfl, ?_⟩) (by assumption) ?_
                  rotate_left
                  · intro w_ hSw; (try dsimp only at hSw); go_simp <;> with_reducible rfl
                  simp only [Act.put, List.setIfInBounds_toArray, List.set_cons_zero, List.set_cons_succ]
                  refine wpAnyH_take (i := 1) (oi := ⟨some 115, _, _, _, _, _⟩) (v := ?_) rfl (by kernel_rfl) (by kernel_rfl) (by kernel_rfl) (fun _ _ _ h => h) (Or.inl ⟨by rfl, ?_⟩) (by assumption) ?_
                  rotate_left
                  · intro w_ hSw; (try dsimp only at hSw); go_simp <;> with_reducible rfl
                  simp only [Act.put, List.setIfInBounds_toArray, List.set_cons_zero, List.set_cons_succ]
                  refine wpAnyH_take (i := 2) (oi := ⟨some 116, _, _, _, _, _⟩) (v := ?_) rfl (by kernel_rfl) (by kernel_rfl) (by kernel_rfl) (fun _ _ _ h => h) (Or.inl ⟨by rfl, ?_⟩) (by assumption) ?_
                  rotate_left
                  · intro w_ hSw; (try dsimp only at hSw); go_simp <;> with_reducible rfl
                  simp only [Act.put, List.setIfInBounds_toArray, List.set_cons_zero, List.set_cons_succ]
                  refine wpAnyH_take (i := 3) (oi := ⟨some 117, _, _, _, _, _⟩) (v := ?_) rfl (by kernel_rfl) (by kernel_rfl) (by kernel_rfl) (fun _ _ _ h => h) (Or.inl ⟨by rfl, ?_⟩) (by assumption) ?_
                  rotate_left
                  · intro w_ hSw; (try dsimp only at hSw); go_simp <;> with_reducible rfl
                  simp only [Act.put, List.setIfInBounds_toArray, List.set_cons_zero, List.set_cons_succ]
                  refine wpAnyH_take (i := 4) (oi := ⟨some 118, _, _, _, _, _⟩) (v := ?_) rfl (by kernel_rfl) (by kernel_rfl) (by kernel_rfl) (fun _ _ _ h => h) (Or.inl ⟨by rfl, ?_⟩) (by assumption) ?_
                  rotate_left
                  · intro w_ hSw; (try dsimp only at hSw); go_simp <;> with_reducible rfl
                  simp only [Act.put, List.setIfInBounds_toArray, List.set_cons_zero, List.set_cons_succ]
                  refine wpAnyH_take (i := 5) (oi := ⟨some 119, _, _, _, _, _⟩) (v := ?_) rfl (by kernel_rfl) (by kernel_rfl) (by kernel_rfl) (fun _ _ _ h => h) (Or.inl ⟨by rfl, ?_⟩) (by assumption) ?_
                  rotate_left
                  · intro w_ hSw; (try dsimp only at hSw); go_simp <;> with_reducible rfl
                  simp only [Act.put, List.setIfInBounds_toArray, List.set_cons_zero, List.set_cons_succ]
                  refine wpAnyH_take (i := 6) (oi := ⟨some 120, _, _, _, _, _⟩) (v := undef) rfl (by kernel_rfl) (by kernel_rfl) (by kernel_rfl) (fun _ _ _ h => h) (Or.inr ⟨by rfl, rfl⟩) (by assumption) ?_
                  simp only [Act.put, List.setIfInBounds_toArray, List.set_cons_zero, List.set_cons_succ]
                  refine wpAnyH_take (i := 7) (oi := ⟨some 121, _, _, _, _, _⟩) (v := undef) rfl (by kernel_rfl) (by kernel_rfl) (by kernel_rfl) (fun _ _ _ h => h) (Or.inr ⟨by rfl, rfl⟩) (by assumption) ?_
                  simp only [Act.put, List.setIfInBounds_toArray, List.set_cons_zero, List.set_cons_succ]
                  refine wpAnyH_take (i := 8) (oi := ⟨some 122, _, _, _, _, _⟩) (v := undef) rfl (by kernel_rfl) (by kernel_rfl) (by kernel_rfl) (fun _ _ _ h => h) (Or.inr ⟨by rfl, rfl⟩) (by assumption) ?_
                  simp only [Act.put, List.setIfInBounds_toArray, List.set_cons_zero, List.set_cons_succ]
                  refine wpAnyH_take (i := 9) (oi := ⟨some 123, _, _, _, _, _⟩) (v := undef) rfl (by kernel_rfl) (by kernel_rfl) (by kernel_rfl) (fun _ _ _ h => h) (Or.inr ⟨by rfl, rfl⟩) (by assumption) ?_
                  simp only [Act.put, List.setIfInBounds_toArray, List.set_cons_zero, List.set_cons_succ]
                  refine wpAnyH_take (i := 10) (oi := ⟨some 124, _, _, _, _, _⟩) (v := undef) rfl (by kernel_rfl) (by kernel_rfl) (by kernel_rfl) (fun _ _ _ h => h) (Or.inr ⟨by rfl, rfl⟩) (by assumption) ?_
                  simp only [Act.put, List.setIfInBounds_toArray, List.set_cons_zero, List.set_cons_succ]
                  refine wpAnyH_take (i := 11) (oi := ⟨some 125, _, _, _, _, _⟩) (v := undef) rfl (by kernel_rfl) (by kernel_rfl) (by kernel_rfl) (fun _ _ _ h => h) (Or.inr ⟨by rfl, rfl⟩) (by assumption) ?_
                  simp only [Act.put, List.setIfInBounds_toArray, List.set_cons_zero, List.set_cons_succ]
                  refine wpAnyH_take (i := 12) (oi := ⟨some 126, _, _, _, _, _⟩) (v := undef) rfl (by kernel_rfl) (by kernel_rfl) (by kernel_rfl) (fun _ _ _ h => h) (Or.inr ⟨by rfl, rfl⟩) (by assumption) ?_
                  simp only [Act.put, List.setIfInBounds_toArray, List.set_cons_zero, List.set_cons_succ]
                  refine wpAnyH_take (i := 13) (oi := ⟨some 127, _, _, _, _, _⟩) (v := undef) rfl (by kernel_rfl) (by kernel_rfl) (by kernel_rfl) (fun _ _ _ h => h) (Or.inr ⟨by rfl, rfl⟩) (by assumption) ?_
                  simp only [Act.put, List.setIfInBounds_toArray, List.set_cons_zero, List.set_cons_succ]
                  refine wpAnyH_take (i := 14) (oi := ⟨some 128, _, _, _, _, _⟩) (v := undef) rfl (by kernel_rfl) (by kernel_rfl) (by kernel_rfl) (fun _ _ _ h => h) (Or.inr ⟨by rfl, rfl⟩) (by assumption) ?_
                  simp only [Act.put, List.setIfInBounds_toArray, List.set_cons_zero, List.set_cons_succ]
                  refine wpAnyH_take (i := 15) (oi := ⟨some 129, _, _, _, _, _⟩) (v := undef) rfl (by kernel_rfl) (by kernel_rfl) (by kernel_rfl) (fun _ _ _ h => h) (Or.inr ⟨by rfl, rfl⟩) (by assumption) ?_
                  simp only [Act.put, List.setIfInBounds_toArray, List.set_cons_zero, List.set_cons_succ]
                  refine wpAnyH_take (i := 16) (oi := ⟨some 130, _, _, _, _, _⟩) (v := undef) rfl (by kernel_rfl) (by kernel_rfl) (by kernel_rfl) (fun _ _ _ h => h) (Or.inr ⟨by rfl, rfl⟩) (by assumption) ?_
                  simp only [Act.put, List.setIfInBounds_toArray, List.set_cons_zero, List.set_cons_succ]
                  refine wpAnyH_take (i := 17) (oi := ⟨some 131, _, _, _, _, _⟩) (v := undef) rfl (by kernel_rfl) (by kernel_rfl) (by kernel_rfl) (fun _ _ _ h => h) (Or.inr ⟨by rfl, rfl⟩) (by assumption) ?_
                  simp only [Act.put, List.setIfInBounds_toArray, List.set_cons_zero, List.set_cons_succ]
                  refine wpAnyH_take (i := 18) (oi := ⟨some 132, _, _, _, _, _⟩) (v := undef) rfl (by kernel_rfl) (by kernel_rfl) (by kernel_rfl) (fun _ _ _ h => h) (Or.inr ⟨by rfl, rfl⟩) (by assumption) ?_
                  simp only [Act.put, List.setIfInBounds_toArray, List.set_cons_zero, List.set_cons_succ]
                  refine wpAnyH_take (i := 19) (oi := ⟨some 133, _, _, _, _, _⟩) (v := undef) rfl (by kernel_rfl) (by kernel_rfl) (by kernel_rfl) (fun _ _ _ h => h) (Or.inr ⟨by rfl, rfl⟩) (by assumption) ?_
                  simp only [Act.put, List.setIfInBounds_toArray, List.set_cons_zero, List.set_cons_succ]
                  refine wpAnyH_take (i := 20) (oi := ⟨some 134, _, _, _, _, _⟩) (v := undef) rfl (by kernel_rfl) (by kernel_rfl) (by kernel_rfl) (fun _ _ _ h => h) (Or.inr ⟨by rfl, rfl⟩) (by assumption) ?_
                  simp only [Act.put, List.setIfInBounds_toArray, List.set_cons_zero, List.set_cons_succ]
                  refine wpAnyH_take (i := 21) (oi := ⟨some 135, _, _, _, _, _⟩) (v := ?_) rfl (by kernel_rfl) (by kernel_rfl) (by kernel_rfl) (fun _ _ _ h => h) (Or.inl ⟨by rfl, ?_⟩) (by assumption) ?_
                  rotate_left
                  · intro w_ hSw; (try dsimp only at hSw); go_simp <;> with_reducible rfl
                  simp only [Act.put, List.setIfInBounds_toArray, List.set_cons_zero, List.set_cons_succ]
                  refine wpAnyH_take (i := 22) (oi := ⟨some 136, _, _, _, _, _⟩) (v := ?_) rfl (by kernel_rfl) (by kernel_rfl) (by kernel_rfl) (fun _ _ _ h => h) (Or.inl ⟨by rfl, ?_⟩) (by assumption) ?_
                  rotate_left
                  · intro w_ hSw; (try dsimp only at hSw); go_simp <;> with_reducible rfl
                  simp only [Act.put, List.setIfInBounds_toArray, List.set_cons_zero, List.set_cons_succ]
                  refine wpAnyH_done (by kernel_rfl) ?_ _
                  obtain ⟨w9, hw9⟩ : ∃ w_, w8.drew = w_ := ⟨_, rfl⟩
                  rw [hw9] at hHeld
                  have HB9 := Lib.hid (HB8.out.trans (hHeld.2.2.mono HB8.out.size))
                  clear hHeld hkz hkz2 hkz3 hkz4
                  try rw [hw9]
                  clear hw9
                  go_upto_region 23 with fail
                  go_wp2
                  go_loopg [14] k (fun kk v wl => ∃ j q : Nat, j ≤ k ∧ k - j ≤ kk ∧ v = .int .i64 j ∧ wl = w9.drewN q)
                  case atStart => exact ⟨0, 0, by omega, by omega, rfl, rfl⟩
                  case round =>
                    obtain ⟨j, q, hj, hjk, rfl, rfl⟩ := hrel
                    by_cases hjl : j < k
                    rotate_left
                    · have x3 : ¬ (j : Int) < k := by omega
                      have HBF := Lib.hid (below_draws HB9.out q)
                      go_wp2
                      go_roundg (k2' - 1)
                      case measure => omega
                      case rel => exact ⟨k + 1, by omega, by omega, by go_num, HBF⟩
                    obtain ⟨u, hu⟩ : ∃ u, x.path[j]? = some u := ⟨_, List.getElem?_eq_getElem (by rw [HPN.out]; omega)⟩
                    have hne := nodup_apart HOKR.out.2.2.2.2.1 hjl hu HS.out
                    obtain ⟨f0, f1⟩ := KS.out w9 HB9.out
                    have e1 := KE1.out w9 HB9.out
                    have g0 : w9.cell? ⟨pk, po + j * 2, none⟩ = some (.int .i64 u.edge) := by obtain ⟨b_, o_, e_, h1_, h2_⟩ := (HP7.out.under HB9.out).step hu; injection e_ with e_; injection e_ with e1_ e2_ _; subst e1_ e2_; exact h1_
                    have y4 : (0 : Int) ≤ j := by omega
                    have y5 : (j : Int) < k := by omega
                    have y6 : (j : Int) < pl := by omega
                    clear hu
                    go_upto_region 26 with fail
                    go_quiet (fail)
                    go_wp2
                    go_roundg (gk - 1)
                    case measure => omega
                    case rel => exact ⟨j + 1, _, by omega, by omega, by go_num, by first | rfl | rw [World.drewN_drewN]⟩
                obtain ⟨k0, hkk0⟩ : ∃ k0, k = k0 + 1 := ⟨k - 1, by omega⟩
                obtain ⟨sq, hsq⟩ : ∃ s, x.path[k0]? = some s := ⟨_, List.getElem?_eq_getElem (by rw [HPN.out]; omega)⟩
                have HAM := Lib.hid (len_way HOKR.out.2.2.2.2.2.1 hsq (by rw [← hkk0]; exact HS.out) HOKR.out.2.2.2.1)
                have KS0 := Lib.hid (fun W (hW : Below w7.heap.size w7 W) => (show W.cell? ⟨pk, po + k0 * 2, none⟩ = some (.int .i64 sq.edge) ∧ W.cell? ⟨pk, po + k0 * 2 + 1, none⟩ = some (.bool sq.rev) from by obtain ⟨b_, o_, e_, h1_, h2_⟩ := (HP7.out.under hW).step hsq; injection e_ with e_; injection e_ with e1_ e2_ _; subst e1_ e2_; exact ⟨h1_, h2_⟩))
                have hkz : (k : Int) > 0 := by omega
                have hkz2 : decide ((k : Int) > 0) = true := decide_eq_true hkz
                have hkz3 : 0 < k := by omega
                have hkz4 : decide (0 < k) = true := decide_eq_true hkz3
                have hw1 : IntKind.i64.wrap ((k : Int) - 1) = (k0 : Int) := by rw [IntKind.wrap_i64]; omega
                have hw2 : IntKind.i64.wrap (k0 : Int) = (k0 : Int) := by rw [IntKind.wrap_i64]; omega
                have y4 : (0 : Int) ≤ k0 := by omega
                have y5 : (k0 : Int) < pl := by omega
                clear hsq hkk0 hk0
                refine wp_region_held_drew (S := (fun W_ => Has W_ (gx) 36 (rtA x (.slice (some ⟨pk, po, none⟩) x.path.length c5)) ∧ Has W_ (w.heap.size) 27 (tpC t a) ∧ Below w8.heap.size w8 W_)) (by kernel_rfl) ?_ (fun hHeld => ?_)
                · exact ⟨(HX7.out.under HB8.out HX7.out.lt).draw, (H0.out _ HW8.out).draw, below_dr11 (Below.refl _ _)⟩
                refine wpAnyH_take (i := 0) (oi := ⟨some 114, _, _, _, _, _⟩) (v := ?_) rfl (by kernel_rfl) (by kernel_rfl) (by kernel_rfl) (fun _ _ _ h => h) (Or.inl ⟨by rfl, ?_⟩) (by assumption) ?_
                rotate_left
                · intro w_ hSw; (try dsimp only at hSw); go_simp <;> with_reducible rfl
                simp only [Act.put, List.setIfInBounds_toArray, List.set_cons_zero, List.set_cons_succ]
                refine wpAnyH_take (i := 1) (oi := ⟨some 115, _, _, _, _, _⟩) (v := ?_) rfl (by kernel_rfl) (by kernel_rfl) (by kernel_rfl) (fun _ _ _ h => h) (Or.inl ⟨by rfl, ?_⟩) (by assumption) ?_
                rotate_left
                · intro w_ hSw; (try dsimp only at hSw); go_simp <;> with_reducible rfl
                simp only [Act.put, List.setIfInBounds_toArray, List.set_cons_zero, List.set_cons_succ]
                refine wpAnyH_take (i := 2) (oi := ⟨some 116, _, _, _, _, _⟩) (v := ?_) rfl (by kernel_rfl) (by kernel_rfl) (by kernel_rfl) (fun _ _ _ h => h) (Or.inl ⟨by rfl, ?_⟩) (by assumption) ?_
                rotate_left
                · intro w_ hSw; (try dsimp only at hSw); go_simp <;> with_reducible rfl
                simp only [Act.put, List.setIfInBounds_toArray, List.set_cons_zero, List.set_cons_succ]
                refine wpAnyH_take (i := 3) (oi := ⟨some 117, _, _, _, _, _⟩) (v := ?_) rfl (by kernel_rfl) (by kernel_rfl) (by kernel_rfl) (fun _ _ _ h => h) (Or.inl ⟨by rfl, ?_⟩) (by assumption) ?_
                rotate_left
                · intro w_ hSw; (try dsimp only at hSw); go_simp <;> with_reducible rfl
                simp only [Act.put, List.setIfInBounds_toArray, List.set_cons_zero, List.set_cons_succ]
                refine wpAnyH_take (i := 4) (oi := ⟨some 118, _, _, _, _, _⟩) (v := ?_) rfl (by kernel_rfl) (by kernel_rfl) (by kernel_rfl) (fun _ _ _ h => h) (Or.inl ⟨by rfl, ?_⟩) (by assumption) ?_
                rotate_left
                · intro w_ hSw; (try dsimp only at hSw); go_simp <;> with_reducible rfl
                simp only [Act.put, List.setIfInBounds_toArray, List.set_cons_zero, List.set_cons_succ]
                refine wpAnyH_take (i := 5) (oi := ⟨some 119, _, _, _, _, _⟩) (v := ?_) rfl (by kernel_rfl) (by kernel_rfl) (by kernel_rfl) (fun _ _ _ h => h) (Or.inl ⟨by rfl, ?_⟩) (by assumption) ?_
                rotate_left
                · intro w_ hSw; (try dsimp only at hSw); go_simp <;> with_reducible rfl
                simp only [Act.put, List.setIfInBounds_toArray, List.set_cons_zero, List.set_cons_succ]
                refine wpAnyH_take (i := 6) (oi := ⟨some 120, _, _, _, _, _⟩) (v := .agg (tpC t a)) rfl (by kernel_rfl) (by kernel_rfl) (by kernel_rfl) (fun _ _ _ h => h) (yields_load_row11 27 _ rfl (w.heap.size) rfl 27 (tpC t a) _ (fun _ ⟨_, h_, _⟩ => h_) Try.underlying27 rfl (by kernel_rfl) (by rfl)) (by assumption) ?_
                simp only [Act.put, List.setIfInBounds_toArray, List.set_cons_zero, List.set_cons_succ]
                refine wpAnyH_take (i := 7) (oi := ⟨some 121, _, _, _, _, _⟩) (v := ?_) rfl (by kernel_rfl) (by kernel_rfl) (by kernel_rfl) (fun _ _ _ h => h) (Or.inl ⟨by rfl, ?_⟩) (by assumption) ?_
                rotate_left
                · intro w_ hSw; (try dsimp only at hSw); go_simp <;> with_reducible rfl
                simp only [Act.put, List.setIfInBounds_toArray, List.set_cons_zero, List.set_cons_succ]
                refine wpAnyH_take (i := 8) (oi := ⟨some 122, _, _, _, _, _⟩) (v := ?_) rfl (by kernel_rfl) (by kernel_rfl) (by kernel_rfl) (fun _ _ _ h => h) (Or.inl ⟨by rfl, ?_⟩) (by assumption) ?_
                rotate_left
                · intro w_ hSw; (try dsimp only at hSw); have e1_ : w_.cell? ⟨gx, 1, none⟩ = some (.slice (some ⟨pk, po, none⟩) pl c5) := KE1.out w_ (HB8.out.trans (hSw.2.2.mono HB8.out.size)); go_simp <;> with_reducible rfl
                simp only [Act.put, List.setIfInBounds_toArray, List.set_cons_zero, List.set_cons_succ]
                refine wpAnyH_take (i := 9) (oi := ⟨some 123, _, _, _, _, _⟩) (v := ?_) rfl (by kernel_rfl) (by kernel_rfl) (by kernel_rfl) (fun _ _ _ h => h) (Or.inl ⟨by rfl, ?_⟩) (by assumption) ?_
                rotate_left
                · intro w_ hSw; (try dsimp only at hSw); go_simp <;> with_reducible rfl
                simp only [Act.put, List.setIfInBounds_toArray, List.set_cons_zero, List.set_cons_succ]
                refine wpAnyH_take (i := 10) (oi := ⟨some 124, _, _, _, _, _⟩) (v := ?_) rfl (by kernel_rfl) (by kernel_rfl) (by kernel_rfl) (fun _ _ _ h => h) (Or.inl ⟨by rfl, ?_⟩) (by assumption) ?_
                rotate_left
                · intro w_ hSw; (try dsimp only at hSw); go_simp <;> with_reducible rfl
                simp only [Act.put, List.setIfInBounds_toArray, List.set_cons_zero, List.set_cons_succ]
                refine wpAnyH_take (i := 11) (oi := ⟨some 125, _, _, _, _, _⟩) (v := ?_) rfl (by kernel_rfl) (by kernel_rfl) (by kernel_rfl) (fun _ _ _ h => h) (Or.inl ⟨by rfl, ?_⟩) (by assumption) ?_
                rotate_left
                · intro w_ hSw; (try dsimp only at hSw); go_simp <;> with_reducible rfl
                simp only [Act.put, List.setIfInBounds_toArray, List.set_cons_zero, List.set_cons_succ]
                refine wpAnyH_take (i := 12) (oi := ⟨some 126, _, _, _, _, _⟩) (v := ?_) rfl (by kernel_rfl) (by kernel_rfl) (by kernel_rfl) (fun _ _ _ h => h) (Or.inl ⟨by rfl, ?_⟩) (by assumption) ?_
                rotate_left
                · intro w_ hSw; (try dsimp only at hSw); obtain ⟨g0_, g1_⟩ := KS0.out w_ (HB8.out.trans (hSw.2.2.mono HB8.out.size)); go_simp <;> with_reducible rfl
                simp only [Act.put, List.setIfInBounds_toArray, List.set_cons_zero, List.set_cons_succ]
                refine wpAnyH_take (i := 14) (oi := ⟨some 128, _, _, _, _, _⟩) (v := ?_) rfl (by kernel_rfl) (by kernel_rfl) (by kernel_rfl) (fun _ _ _ h => h) (Or.inl ⟨by rfl, ?_⟩) (by assumption) ?_
                rotate_left
                · intro w_ hSw; (try dsimp only at hSw); go_simp <;> with_reducible rfl
                simp only [Act.put, List.setIfInBounds_toArray, List.set_cons_zero, List.set_cons_succ]
                refine wpAnyH_take (i := 15) (oi := ⟨some 129, _, _, _, _, _⟩) (v := ?_) rfl (by kernel_rfl) (by kernel_rfl) (by kernel_rfl) (fun _ _ _ h => h) (Or.inl ⟨by rfl, ?_⟩) (by assumption) ?_
                rotate_left
                · intro w_ hSw; (try dsimp only at hSw); have e1_ : w_.cell? ⟨gx, 1, none⟩ = some (.slice (some ⟨pk, po, none⟩) pl c5) := KE1.out w_ (HB8.out.trans (hSw.2.2.mono HB8.out.size)); go_simp <;> with_reducible rfl
                simp only [Act.put, List.setIfInBounds_toArray, List.set_cons_zero, List.set_cons_succ]
                refine wpAnyH_take (i := 16) (oi := ⟨some 130, _, _, _, _, _⟩) (v := ?_) rfl (by kernel_rfl) (by kernel_rfl) (by kernel_rfl) (fun _ _ _ h => h) (Or.inl ⟨by rfl, ?_⟩) (by assumption) ?_
                rotate_left
                · intro w_ hSw; (try dsimp only at hSw); go_simp <;> with_reducible rfl
                simp only [Act.put, List.setIfInBounds_toArray, List.set_cons_zero, List.set_cons_succ]
                refine wpAnyH_take (i := 17) (oi := ⟨some 131, _, _, _, _, _⟩) (v := ?_) rfl (by kernel_rfl) (by kernel_rfl) (by kernel_rfl) (fun _ _ _ h => h) (Or.inl ⟨by rfl, ?_⟩) (by assumption) ?_
                rotate_left
                · intro w_ hSw; (try dsimp only at hSw); go_simp <;> with_reducible rfl
                simp only [Act.put, List.setIfInBounds_toArray, List.set_cons_zero, List.set_cons_succ]
                refine wpAnyH_take (i := 18) (oi := ⟨some 132, _, _, _, _, _⟩) (v := ?_) rfl (by kernel_rfl) (by kernel_rfl) (by kernel_rfl) (fun _ _ _ h => h) (Or.inl ⟨by rfl, ?_⟩) (by assumption) ?_
                rotate_left
                · intro w_ hSw; (try dsimp only at hSw); obtain ⟨g0_, g1_⟩ := KS.out w_ (HB8.out.trans (hSw.2.2.mono HB8.out.size)); go_simp <;> with_reducible rfl
                simp only [Act.put, List.setIfInBounds_toArray, List.set_cons_zero, List.set_cons_succ]
                refine wpAnyH_ready (rs := [13]) (by kernel_rfl) (by simp) ?_
                refine AllReadyH.cons (o := ⟨some 127, _, _, _, _, _⟩) rfl (fun K hK => ?_) ?_
                · go_simp
                  obtain ⟨s0, s1, s2⟩ := hHeld
                  have hlo_ := HBA.out _ (HW8.out.trans (s2.mono HW8.out.size))
                  have hk_ := otp_after t a sq _ (HT.out _ hlo_) HQ.out
                  unfold stA13 at hk_
                  refine hk_.mono ?_
                  rintro e_ va ⟨A6, c6, rfl, hs6, hbs⟩
                  go_wp2_with fail
                  refine hK.out _ _ ?_ (fun hHeld => ?_)
                  · exact ⟨s0.under hbs s0.lt, s1.under hbs s1.lt, s2.trans (hbs.mono s2.size)⟩
                  refine wpAnyH_more11 (T := (fun W_ => Has W_ (gx) 36 (rtA x (.slice (some ⟨pk, po, none⟩) x.path.length c5)) ∧ Has W_ (w.heap.size) 27 (tpC t a) ∧ Below w8.heap.size w8 W_ ∧ SlO stC 2 W_ A6 ((afterL t sq).length) c6 (afterL t sq))) (fun _ ⟨s0, s1, s2, s3⟩ => ⟨s0, s1, s2⟩) ?_
                  have hHeld2 : (fun W_ => Has W_ (gx) 36 (rtA x (.slice (some ⟨pk, po, none⟩) x.path.length c5)) ∧ Has W_ (w.heap.size) 27 (tpC t a) ∧ Below w8.heap.size w8 W_ ∧ SlO stC 2 W_ A6 ((afterL t sq).length) c6 (afterL t sq)) _ := ⟨s0.under hbs s0.lt, s1.under hbs s1.lt, s2.trans (hbs.mono s2.size), hs6⟩
                  clear hHeld
                  have hHeld := hHeld2
                  clear hHeld2
                  clear hK K s0 s1 s2
                  try simp only [Act.put, List.setIfInBounds_toArray, List.set_cons_zero, List.set_cons_succ]
                  refine wpAnyH_ready (rs := [19]) (by kernel_rfl) (by simp) ?_
                  refine AllReadyH.cons (o := ⟨some 133, _, _, _, _, _⟩) rfl (fun K hK => ?_) ?_
                  · go_simp
                    obtain ⟨s0, s1, s2, s3⟩ := hHeld
                    have hk_ := among13_any A6 (afterL t sq).length c6 (afterL t sq) s _ s3 (by have := after_len13 t sq HLN.out.1; omega)
                    rw [HAM.out] at hk_
                    unfold stA13 at hk_
                    refine hk_.mono ?_
                    rintro e_ w9 ⟨rfl, hbs⟩
                    go_wp2_with fail
                    refine hK.out _ _ ?_ (fun hHeld => ?_)
                    · exact ⟨s0.under hbs s0.lt, s1.under hbs s1.lt, s2.trans (hbs.mono s2.size), s3.under hbs⟩
                    clear hK K s0 s1 s2 s3
                    try simp only [Act.put, List.setIfInBounds_toArray, List.set_cons_zero, List.set_cons_succ]
                    refine wpAnyH_take (i := 20) (oi := ⟨some 134, _, _, _, _, _⟩) (v := ?_) rfl (by kernel_rfl) (by kernel_rfl) (by kernel_rfl) (fun _ _ _ h => h) (Or.inl ⟨by rfl, ?_⟩) (by assumption) ?_
                    rotate_left
                    · intro w_ hSw; (try dsimp only at hSw); go_simp <;> with_reducible rfl
                    simp only [Act.put, List.setIfInBounds_toArray, List.set_cons_zero, List.set_cons_succ]
                    refine wpAnyH_take (i := 21) (oi := ⟨some 135, _, _, _, _, _⟩) (v := ?_) rfl (by kernel_rfl) (by kernel_rfl) (by kernel_rfl) (fun _ _ _ h => h) (Or.inl ⟨by rfl, ?_⟩) (by assumption) ?_
                    rotate_left
                    · intro w_ hSw; (try dsimp only at hSw); go_simp <;> with_reducible rfl
                    simp only [Act.put, List.setIfInBounds_toArray, List.set_cons_zero, List.set_cons_succ]
                    refine wpAnyH_take (i := 22) (oi := ⟨some 136, _, _, _, _, _⟩) (v := ?_) rfl (by kernel_rfl) (by kernel_rfl) (by kernel_rfl) (fun _ _ _ h => h) (Or.inl ⟨by rfl, ?_⟩) (by assumption) ?_
                    rotate_left
                    · intro w_ hSw; (try dsimp only at hSw); go_simp <;> with_reducible rfl
                    simp only [Act.put, List.setIfInBounds_toArray, List.set_cons_zero, List.set_cons_succ]
                    refine wpAnyH_done (by kernel_rfl) ?_ _
                    have HB9 := Lib.hid (HB8.out.trans (hHeld.2.2.1.mono HB8.out.size))
                    clear hHeld hkz hkz2 hkz3 hkz4 hw1 hw2 y4 y5 KS0 HAM
                    go_upto_region 23 with fail
                    go_wp2
                    go_loopg [14] k (fun kk v wl => ∃ j q : Nat, j ≤ k ∧ k - j ≤ kk ∧ v = .int .i64 j ∧ wl = w9.drewN q)
                    case atStart => exact ⟨0, 0, by omega, by omega, rfl, rfl⟩
                    case round =>
                      obtain ⟨j, q, hj, hjk, rfl, rfl⟩ := hrel
                      by_cases hjl : j < k
                      rotate_left
                      · have x3 : ¬ (j : Int) < k := by omega
                        have HBF := Lib.hid (below_draws HB9.out q)
                        go_wp2
                        go_roundg (k2' - 1)
                        case measure => omega
                        case rel => exact ⟨k + 1, by omega, by omega, by go_num, HBF⟩
                      obtain ⟨u, hu⟩ : ∃ u, x.path[j]? = some u := ⟨_, List.getElem?_eq_getElem (by rw [HPN.out]; omega)⟩
                      have hne := nodup_apart HOKR.out.2.2.2.2.1 hjl hu HS.out
                      obtain ⟨f0, f1⟩ := KS.out w9 HB9.out
                      have e1 := KE1.out w9 HB9.out
                      have g0 : w9.cell? ⟨pk, po + j * 2, none⟩ = some (.int .i64 u.edge) := by obtain ⟨b_, o_, e_, h1_, h2_⟩ := (HP7.out.under HB9.out).step hu; injection e_ with e_; injection e_ with e1_ e2_ _; subst e1_ e2_; exact h1_
                      have y4 : (0 : Int) ≤ j := by omega
                      have y5 : (j : Int) < k := by omega
                      have y6 : (j : Int) < pl := by omega
                      clear hu
                      go_upto_region 26 with fail
                      go_quiet (fail)
                      go_wp2
                      go_roundg (gk - 1)
                      case measure => omega
                      case rel => exact ⟨j + 1, _, by omega, by omega, by go_num, by first | rfl | rw [World.drewN_drewN]⟩
                  exact AllReadyH.nil
                exact AllReadyH.nil
              obtain ⟨y, hy⟩ : ∃ y, t.bals[m]? = some y := ⟨_, List.getElem?_eq_getElem (by rw [HN2.out]; exact hml)⟩
              have hts := any_take_succ (p := fun b : Bl3 => b.edge == s.edge) hy
              obtain ⟨bb, bo, hab, -, d1, -⟩ := (HSB.out.under (HBA.out wr2 HWW.out)).bal hy
              obtain ⟨bb, bo, rfl, -, d1, -⟩ := (HSB.out.under (HBA.out wr2 HWW.out)).bal hy
              obtain ⟨f0, f1⟩ := KS.out wr2 HB.out
              have y4 : (0 : Int) ≤ m := by omega
              have y5 : (m : Int) < n2 := by omega
              obtain ⟨hs0, hh0⟩ : ∃ b, ((t.bals.take m).any fun b => b.edge == s.edge) = b := ⟨_, rfl⟩
              rw [hh0] at hts
              simp only [hh0]
              have HTS := Lib.hid hts
              clear hy hts hh0
              go_upto_region 20 with fail
              cases hs0 with
              | true =>
                go_quiet (fail)
                go_wp2
                go_roundg (gk - 1)
                case measure => omega
                case rel => exact ⟨m + 1, _, by omega, by omega, by go_num, by rw [HTS.out]; rfl, by first | rfl | rw [World.drewN_drewN]⟩
              | false =>
                go_quiet (fail)
                go_wp2
                go_roundg (gk - 1)
                case measure => omega
                case rel => exact ⟨m + 1, _, by omega, by omega, by go_num, by rw [HTS.out]; simp, by first | rfl | rw [World.drewN_drewN]⟩
        exact AllReadyH.nil

end Go.Proofs.Ytkigdeohlomgiaa
