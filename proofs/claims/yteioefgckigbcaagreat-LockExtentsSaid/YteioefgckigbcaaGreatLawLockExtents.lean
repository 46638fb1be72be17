/-
  linesidelaw16: LockExtents.
-/
import Derived.Test.YteioefgckigbcaaGreatLawLcPlay

import Derived.BigQuiet

import Derived.IntWalk

namespace Go.Proofs.YteioefgckigbcaaGreat

open Go.RowKit

open Go.Great

theorem locked_len16 (t : Tp3) (l : List Lc3) (train : Int) : (lockedL t l train).length ≤ 32 * l.length := by
  unfold lockedL
  split
  · rename_i hc
    unfold normL
    refine Nat.le_trans (form_few _ _ _) ?_
    have h1 : ((ofL l train).flatMap fun k => extL t k.route).length ≤ 16 * (ofL l train).length := by
      generalize ofL l train = m
      induction m with
      | nil => simp
      | cons x r ih =>
        rw [List.flatMap_cons, List.length_append, List.length_cons]
        have := ext_few8 hc x.route
        omega
    have h2 : (ofL l train).length ≤ l.length := List.length_filter_le _ _
    simp only [List.length_nil]
    omega
  · simp
theorem set_few16 (t : Tp3) (x : It3) (route train : Int) : (setE t x route train).1.locks.length ≤ x.locks.length + 1 := by
  unfold setE zeroI
  split
  · simp
  · split
    · simp
    · split
      · simp
      · split
        · simp
        · split
          · simp
          · simp
theorem free_few16 (t : Tp3) (x : It3) (no : Int) : (freeE t x no).1.locks.length ≤ x.locks.length := by
  unfold freeE zeroI
  split
  · simp
  · split
    · simp
    · exact List.length_filter_le _ _

set_option maxRecDepth 100000 in
set_option maxHeartbeats 8000000 in
theorem lockExtents_walk (t : Tp3) (a : TpA) (A : Option Addr) (n c : Nat) (l : List Lc3) (route train : Int) (w : World) (ht : TopR w t a) (hcj : t.joints.length ≤ a.cj) (hs : SlO lcC 3 w A n c l) (hnc : n ≤ c) (_ : (Lit.int .i64 route).wf = true) (_ : (Lit.int .i64 train).wf = true) :
    Calls Tryz.prog 4 #[.agg (tpC t a), .slice A n c, .int .i64 route, .int .i64 train] w fun e w' => e = .returned (.bool true) ∧ Below w.heap.size w w' := by
  obtain ⟨wa, hwa⟩ : ∃ wa, w.alloc (.cells (tpC t a) 27) = wa := ⟨_, rfl⟩
  have hbwa : Below w.heap.size w wa := by rw [← hwa]; exact (Below.refl _ _).alloc (Nat.le_refl _) _
  have h0 : Has wa (w.heap.size) 27 (tpC t a) := by rw [← hwa]; exact (Has.made _ _ _)
  have HWA := Lib.hid hwa; have HBWA := Lib.hid hbwa
  have HT := Lib.hid (fun W (hW : Below w.heap.size w W) => ht.under hW)
  have HCJ := Lib.hid hcj
  have HS := Lib.hid (fun W (hW : Below w.heap.size w W) => hs.under hW)
  have HNC := Lib.hid hnc
  have HL := Lib.hid hs.1
  clear hs hnc
  have HG0 := Lib.hid h0
  clear hwa hbwa hcj ht h0
  obtain ⟨q, hq⟩ : ∃ q, (lightT t && decide (n ≤ 100)) = q := ⟨_, rfl⟩
  have HQ := Lib.hid hq
  clear hq
  go_enter Tryz.func4, Tryz.ntmps4
  go_upto_region 1 with fail
  rw [HWA.out]
  clear HWA
  go_wp2_with fail
  refine (awake16_any wa).mono ?_
  rintro e w1 ⟨rfl, hb⟩
  have HB := HBWA
  clear HBWA
  have HB := Lib.hid (HB.out.trans (hb.mono HB.out.size))
  have HG0 := Lib.hid (HG0.out.under hb HG0.out.lt)
  clear hb
  go_wp2_with (with_reducible refine wpList_load_row (o := ⟨some 15, _, _, _, _, _⟩) rfl 27 _ rfl (w.heap.size) rfl 27 (tpC t a) (0, 0) _ (HG0.out).raw11 Tryz.underlying27 rfl (by kernel_rfl) ?_)
  refine (few16_any t a A n c w1 (HT.out _ HB.out)).mono ?_
  rw [HQ.out]
  rintro e w2 ⟨rfl, hb⟩
  have HB := Lib.hid (HB.out.trans (hb.mono HB.out.size))
  have HG0 := Lib.hid (HG0.out.under hb HG0.out.lt)
  clear hb
  cases q with
  | false =>
    go_wp2
    go_ret
    exact ⟨by first | rfl | simp, HB.out⟩
  | true =>
    have HLT := Lib.hid (show lightT t = true from by have h_ := HQ.out; simp only [Bool.and_eq_true] at h_; exact h_.1)
    have HN := Lib.hid (show n ≤ 100 from by have h_ := HQ.out; simp only [Bool.and_eq_true, decide_eq_true_eq] at h_; exact h_.2)
    clear HQ
    go_upto_region 5 with fail
    go_cut [11] (fun s11 wx => s11 = .bool true ∧ Has wx (w.heap.size) 27 (tpC t a) ∧ Below w.heap.size w wx)
    case first =>
      refine wp_region_held_drew (S := (fun W_ => (Has W_ (w.heap.size) 27 (tpC t a)) ∧ (Below w.heap.size w W_))) (by kernel_rfl) ?_ (fun hHeld => ?_)
      · exact ⟨HG0.out.draw, below_dr11 HB.out⟩
      refine wpAnyH_take (i := 0) (oi := ⟨some 25, _, _, _, _, _⟩) (v := .agg (tpC t a)) rfl (by kernel_rfl) (by kernel_rfl) (by kernel_rfl) (fun _ _ _ h => h) (yields_load_row11 27 _ rfl (w.heap.size) rfl 27 (tpC t a) _ (fun _ ⟨h_, _⟩ => h_) Tryz.underlying27 rfl (by kernel_rfl) (by rfl)) (by assumption) ?_
      simp only [Act.put, List.setIfInBounds_toArray, List.set_cons_zero, List.set_cons_succ]
      refine wpAnyH_take (i := 1) (oi := ⟨some 26, _, _, _, _, _⟩) (v := ?_) rfl (by kernel_rfl) (by kernel_rfl) (by kernel_rfl) (fun _ _ _ h => h) (Or.inl ⟨by rfl, ?_⟩) (by assumption) ?_
      rotate_left
      · intro w_ hSw; (try dsimp only at hSw); go_simp <;> with_reducible rfl
      simp only [Act.put, List.setIfInBounds_toArray, List.set_cons_zero, List.set_cons_succ]
      refine wpAnyH_take (i := 3) (oi := ⟨some 28, _, _, _, _, _⟩) (v := .agg (tpC t a)) rfl (by kernel_rfl) (by kernel_rfl) (by kernel_rfl) (fun _ _ _ h => h) (yields_load_row11 27 _ rfl (w.heap.size) rfl 27 (tpC t a) _ (fun _ ⟨h_, _⟩ => h_) Tryz.underlying27 rfl (by kernel_rfl) (by rfl)) (by assumption) ?_
      simp only [Act.put, List.setIfInBounds_toArray, List.set_cons_zero, List.set_cons_succ]
      refine wpAnyH_take (i := 4) (oi := ⟨some 29, _, _, _, _, _⟩) (v := ?_) rfl (by kernel_rfl) (by kernel_rfl) (by kernel_rfl) (fun _ _ _ h => h) (Or.inl ⟨by rfl, ?_⟩) (by assumption) ?_
      rotate_left
      · intro w_ hSw; (try dsimp only at hSw); go_simp <;> with_reducible rfl
      simp only [Act.put, List.setIfInBounds_toArray, List.set_cons_zero, List.set_cons_succ]
      refine wpAnyH_ready (rs := [2]) (by kernel_rfl) (by simp) ?_
      refine AllReadyH.cons (o := ⟨some 27, _, _, _, _, _⟩) rfl (fun K hK => ?_) ?_
      · go_simp
        obtain ⟨s0, s1⟩ := hHeld
        refine (olc_extent t a route _ (HT.out _ s1) HLT.out HCJ.out).mono ?_
        rintro e_ q1 ⟨X1, x1, rfl, hs_, hc_, hb_⟩
        clear hc_
        have HE1 := Lib.hid (hs_)
        go_wp2_with fail
        refine hK.out _ _ ?_ (fun hHeld => ?_)
        · exact ⟨s0.under hb_ s0.lt, s1.trans (hb_.mono s1.size)⟩
        clear hK K s0 s1
        try simp only [Act.put, List.setIfInBounds_toArray, List.set_cons_zero, List.set_cons_succ]
        refine wpAnyH_ready (rs := [5]) (by kernel_rfl) (by simp) ?_
        refine AllReadyH.cons (o := ⟨some 30, _, _, _, _, _⟩) rfl (fun K hK => ?_) ?_
        · go_simp
          obtain ⟨s0, s1⟩ := hHeld
          refine (rlext_any t a route _ (HT.out _ s1) HLT.out).mono ?_
          rintro e_ q2 ⟨X2, x2, rfl, hs_, hc_, hb_⟩
          clear hc_
          have HE1 := Lib.hid (HE1.out.under hb_)
          have HE2 := Lib.hid (hs_)
          go_wp2_with fail
          refine hK.out _ _ ?_ (fun hHeld => ?_)
          · exact ⟨s0.under hb_ s0.lt, s1.trans (hb_.mono s1.size)⟩
          clear hK K s0 s1
          try simp only [Act.put, List.setIfInBounds_toArray, List.set_cons_zero, List.set_cons_succ]
          refine wpAnyH_ready (rs := [6]) (by kernel_rfl) (by simp) ?_
          refine AllReadyH.cons (o := ⟨some 31, _, _, _, _, _⟩) rfl (fun K hK => ?_) ?_
          · go_simp
            obtain ⟨s0, s1⟩ := hHeld
            refine (rssame_any (extL t route) (extL t route) X1 X2 _ x1 _ x2 _ HE1.out HE2.out (by have := ext_few HLT.out route; omega) (by have := ext_few HLT.out route; omega)).mono ?_
            rw [(sameN_iff _ _).2 rfl]
            rintro e_ q3 ⟨rfl, hb_⟩
            have HE1 := Lib.hid (HE1.out.under hb_)
            have HE2 := Lib.hid (HE2.out.under hb_)
            go_wp2_with fail
            refine hK.out _ _ ?_ (fun hHeld => ?_)
            · exact ⟨s0.under hb_ s0.lt, s1.trans (hb_.mono s1.size)⟩
            clear hK K s0 s1
            try simp only [Act.put, List.setIfInBounds_toArray, List.set_cons_zero, List.set_cons_succ]
            refine wpAnyH_take (i := 7) (oi := ⟨some 11, _, _, _, _, _⟩) (v := ?_) rfl (by kernel_rfl) (by kernel_rfl) (by kernel_rfl) (fun _ _ _ h => h) (Or.inl ⟨by rfl, ?_⟩) (by assumption) ?_
            rotate_left
            · intro w_ hSw; (try dsimp only at hSw); go_simp <;> with_reducible rfl
            simp only [Act.put, List.setIfInBounds_toArray, List.set_cons_zero, List.set_cons_succ]
            refine wpAnyH_done (by kernel_rfl) ?_ _
            go_wp2_with fail
            go_meet
            exact ⟨rfl, hHeld⟩
          exact AllReadyH.nil
        exact AllReadyH.nil
      exact AllReadyH.nil
    case rest =>
      obtain ⟨rfl, hx_, hb_⟩ := hcut
      have HG0 := Lib.hid hx_; have HB := Lib.hid hb_
      clear hx_ hb_
      obtain ⟨w3, hw3⟩ : ∃ w3, w3 = wc := ⟨_, rfl⟩
      subst hw3
      go_upto_region 6 with fail
      go_cut [12] (fun s12 wx => s12 = .bool true ∧ Below w.heap.size w wx)
      case first =>
        refine wp_region_held_drew (S := (fun W_ => (Has W_ (w.heap.size) 27 (tpC t a)) ∧ (Below w.heap.size w W_))) (by kernel_rfl) ?_ (fun hHeld => ?_)
        · exact ⟨HG0.out.draw, below_dr11 HB.out⟩
        refine wpAnyH_take (i := 0) (oi := ⟨some 32, _, _, _, _, _⟩) (v := .agg (tpC t a)) rfl (by kernel_rfl) (by kernel_rfl) (by kernel_rfl) (fun _ _ _ h => h) (yields_load_row11 27 _ rfl (w.heap.size) rfl 27 (tpC t a) _ (fun _ ⟨h_, _⟩ => h_) Tryz.underlying27 rfl (by kernel_rfl) (by rfl)) (by assumption) ?_
        simp only [Act.put, List.setIfInBounds_toArray, List.set_cons_zero, List.set_cons_succ]
        refine wpAnyH_take (i := 1) (oi := ⟨some 33, _, _, _, _, _⟩) (v := ?_) rfl (by kernel_rfl) (by kernel_rfl) (by kernel_rfl) (fun _ _ _ h => h) (Or.inl ⟨by rfl, ?_⟩) (by assumption) ?_
        rotate_left
        · intro w_ hSw; (try dsimp only at hSw); go_simp <;> with_reducible rfl
        simp only [Act.put, List.setIfInBounds_toArray, List.set_cons_zero, List.set_cons_succ]
        refine wpAnyH_take (i := 2) (oi := ⟨some 34, _, _, _, _, _⟩) (v := ?_) rfl (by kernel_rfl) (by kernel_rfl) (by kernel_rfl) (fun _ _ _ h => h) (Or.inl ⟨by rfl, ?_⟩) (by assumption) ?_
        rotate_left
        · intro w_ hSw; (try dsimp only at hSw); go_simp <;> with_reducible rfl
        simp only [Act.put, List.setIfInBounds_toArray, List.set_cons_zero, List.set_cons_succ]
        refine wpAnyH_take (i := 4) (oi := ⟨some 36, _, _, _, _, _⟩) (v := .agg (tpC t a)) rfl (by kernel_rfl) (by kernel_rfl) (by kernel_rfl) (fun _ _ _ h => h) (yields_load_row11 27 _ rfl (w.heap.size) rfl 27 (tpC t a) _ (fun _ ⟨h_, _⟩ => h_) Tryz.underlying27 rfl (by kernel_rfl) (by rfl)) (by assumption) ?_
        simp only [Act.put, List.setIfInBounds_toArray, List.set_cons_zero, List.set_cons_succ]
        refine wpAnyH_take (i := 5) (oi := ⟨some 37, _, _, _, _, _⟩) (v := ?_) rfl (by kernel_rfl) (by kernel_rfl) (by kernel_rfl) (fun _ _ _ h => h) (Or.inl ⟨by rfl, ?_⟩) (by assumption) ?_
        rotate_left
        · intro w_ hSw; (try dsimp only at hSw); go_simp <;> with_reducible rfl
        simp only [Act.put, List.setIfInBounds_toArray, List.set_cons_zero, List.set_cons_succ]
        refine wpAnyH_take (i := 6) (oi := ⟨some 38, _, _, _, _, _⟩) (v := ?_) rfl (by kernel_rfl) (by kernel_rfl) (by kernel_rfl) (fun _ _ _ h => h) (Or.inl ⟨by rfl, ?_⟩) (by assumption) ?_
        rotate_left
        · intro w_ hSw; (try dsimp only at hSw); go_simp <;> with_reducible rfl
        simp only [Act.put, List.setIfInBounds_toArray, List.set_cons_zero, List.set_cons_succ]
        refine wpAnyH_ready (rs := [3]) (by kernel_rfl) (by simp) ?_
        refine AllReadyH.cons (o := ⟨some 35, _, _, _, _, _⟩) rfl (fun K hK => ?_) ?_
        · go_simp
          obtain ⟨s0, s1⟩ := hHeld
          refine (olc_locked t a l train A n c _ (HT.out _ s1) HLT.out HCJ.out (HS.out _ s1) HNC.out HN.out).mono ?_
          rintro e_ q1 ⟨X1, x1, rfl, hs_, hc_, hb_⟩
          clear hc_
          have HE1 := Lib.hid (hs_)
          go_wp2_with fail
          refine hK.out _ _ ?_ (fun hHeld => ?_)
          · exact ⟨s0.under hb_ s0.lt, s1.trans (hb_.mono s1.size)⟩
          clear hK K s0 s1
          try simp only [Act.put, List.setIfInBounds_toArray, List.set_cons_zero, List.set_cons_succ]
          refine wpAnyH_ready (rs := [7]) (by kernel_rfl) (by simp) ?_
          refine AllReadyH.cons (o := ⟨some 39, _, _, _, _, _⟩) rfl (fun K hK => ?_) ?_
          · go_simp
            obtain ⟨s0, s1⟩ := hHeld
            refine (rllocked_any t a l train A n c _ (HT.out _ s1) HLT.out HCJ.out (HS.out _ s1) HN.out).mono ?_
            rintro e_ q2 ⟨X2, x2, rfl, hs_, hc_, hb_⟩
            clear hc_
            have HE1 := Lib.hid (HE1.out.under hb_)
            have HE2 := Lib.hid (hs_)
            go_wp2_with fail
            refine hK.out _ _ ?_ (fun hHeld => ?_)
            · exact ⟨s0.under hb_ s0.lt, s1.trans (hb_.mono s1.size)⟩
            clear hK K s0 s1
            try simp only [Act.put, List.setIfInBounds_toArray, List.set_cons_zero, List.set_cons_succ]
            refine wpAnyH_ready (rs := [8]) (by kernel_rfl) (by simp) ?_
            refine AllReadyH.cons (o := ⟨some 40, _, _, _, _, _⟩) rfl (fun K hK => ?_) ?_
            · go_simp
              obtain ⟨s0, s1⟩ := hHeld
              refine (rssame_any (lockedL t l train) (lockedL t l train) X1 X2 _ x1 _ x2 _ HE1.out HE2.out (by have h1_ := locked_len16 t l train; have h2_ := HL.out; have h3_ := HN.out; omega) (by have h1_ := locked_len16 t l train; have h2_ := HL.out; have h3_ := HN.out; omega)).mono ?_
              rw [(sameN_iff _ _).2 rfl]
              rintro e_ q3 ⟨rfl, hb_⟩
              have HE1 := Lib.hid (HE1.out.under hb_)
              have HE2 := Lib.hid (HE2.out.under hb_)
              go_wp2_with fail
              refine hK.out _ _ ?_ (fun hHeld => ?_)
              · exact ⟨s0.under hb_ s0.lt, s1.trans (hb_.mono s1.size)⟩
              clear hK K s0 s1
              try simp only [Act.put, List.setIfInBounds_toArray, List.set_cons_zero, List.set_cons_succ]
              refine wpAnyH_take (i := 9) (oi := ⟨some 12, _, _, _, _, _⟩) (v := ?_) rfl (by kernel_rfl) (by kernel_rfl) (by kernel_rfl) (fun _ _ _ h => h) (Or.inl ⟨by rfl, ?_⟩) (by assumption) ?_
              rotate_left
              · intro w_ hSw; (try dsimp only at hSw); go_simp <;> with_reducible rfl
              simp only [Act.put, List.setIfInBounds_toArray, List.set_cons_zero, List.set_cons_succ]
              refine wpAnyH_done (by kernel_rfl) ?_ _
              go_wp2_with fail
              go_meet
              exact ⟨rfl, hHeld.2⟩
            exact AllReadyH.nil
          exact AllReadyH.nil
        exact AllReadyH.nil
      case rest =>
        obtain ⟨rfl, hb_⟩ := hcut
        have HB := Lib.hid hb_
        clear hb_ HG0
        obtain ⟨w4, hw4⟩ : ∃ w4, w4 = wc := ⟨_, rfl⟩
        subst hw4
        go_wp2_with fail
        refine (olc_of l train A n c w4 (HS.out _ HB.out) HNC.out (by have := HN.out; omega)).mono ?_
        rintro e_ w5 ⟨X1, k1, x1, rfl, hl_, hb⟩
        have H1 := Lib.hid hl_.1
        clear hl_
        have HB := Lib.hid (HB.out.trans (hb.mono HB.out.size))
        clear hb
        go_wp2_with fail
        refine (rlof_any l train A n c w5 (HS.out _ HB.out) (by have := HN.out; omega)).mono ?_
        rintro e_ w6 ⟨X2, k2, x2, rfl, hl_, hb⟩
        have H2 := Lib.hid hl_.sl
        clear hl_
        have HB := Lib.hid (HB.out.trans (hb.mono HB.out.size))
        have H1 := Lib.hid (H1.out.under hb)
        clear hb
        go_wp2_with fail
        refine (rllocks_any (ofL l train) (ofL l train) X1 X2 k1 x1 k2 x2 w6 H1.out H2.out (by have h1_ := H1.out.1; have h2_ : (ofL l train).length ≤ l.length := List.length_filter_le _ _; have h3_ := HL.out; have h4_ := HN.out; omega) (by have h1_ := H2.out.1; have h2_ : (ofL l train).length ≤ l.length := List.length_filter_le _ _; have h3_ := HL.out; have h4_ := HN.out; omega)).mono ?_
        rw [(sameK_iff _ _).2 rfl]
        rintro e_ w7 ⟨rfl, hb⟩
        have HB := Lib.hid (HB.out.trans (hb.mono HB.out.size))
        clear hb
        go_wp2
        go_ret
        exact ⟨by first | rfl | simp, HB.out⟩

end Go.Proofs.YteioefgckigbcaaGreat
