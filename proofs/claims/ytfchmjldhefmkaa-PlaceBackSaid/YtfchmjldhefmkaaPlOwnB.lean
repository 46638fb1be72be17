/-
  package place as landed: Walk.
-/
import Derived.Test.YtfchmjldhefmkaaPlOwnA
import Derived.Test.YtfchmjldhefmkaaPlRefC
import Derived.Test.YtfchmjldhefmkaaToAfter
import Derived.BigQuiet
import Derived.IntWalk
import Derived.WalkMore
namespace Go.Proofs.Ytfchmjldhefmkaa
open Go.RowKit
open Go.Great

set_option maxRecDepth 100000 in
set_option maxHeartbeats 8000000 in
theorem opl_walk (t : Tp3) (a : TpA) (p : Ps3) (n : Int) (w : World) (ht : TopR w t a) (hlt : lightT t = true) (hcj : t.joints.length ≤ a.cj) (_hr : (-9223372036854775808 ≤ n ∧ n ≤ 9223372036854775807)) :
    Calls Try.prog 10 #[.agg (tpC t a), .agg (psA p), .int .i64 n] w fun e w' => e = .returned (.tuple #[.agg (psA (walkE t p n).1), .int .i64 (walkE t p n).2]) ∧ Below w.heap.size w w' := by
  obtain ⟨rP, hrP⟩ : ∃ r, (walkE t p n).1 = r := ⟨_, rfl⟩
  obtain ⟨rE, hrE⟩ : ∃ r, (walkE t p n).2 = r := ⟨_, rfl⟩
  have HWE := Lib.hid (show walkE t p n = (rP, rE) from Prod.ext hrP hrE)
  rw [hrP, hrE]
  clear hrP hrE
  have HLT := Lib.hid hlt
  have HNN := Lib.hid (light_nums13 hlt)
  have HCJ := Lib.hid hcj
  clear hlt hcj
  obtain ⟨wa, hwa⟩ : ∃ wa, ((w.alloc (.cells (tpC t a) 27)).alloc (.cells (psA p) 29)).alloc (.cells #[.int .i64 0, .int .i64 0, .bool false] 29) = wa := ⟨_, rfl⟩
  have hbwa : Below w.heap.size w wa := by rw [← hwa]; exact (((Below.refl _ _).alloc (Nat.le_refl _) _).alloc (by simp) _).alloc (by simp; omega) _
  have h0 : Has wa (w.heap.size) 27 (tpC t a) := by rw [← hwa]; exact (((Has.made _ _ _).beside _).beside _)
  have h1 : Has wa (w.heap.size + 1) 29 (psA p) := by rw [← hwa]; exact ((has_at11 (by simp)).beside _)
  have h2 : Has wa (w.heap.size + 1 + 1) 29 #[.int .i64 0, .int .i64 0, .bool false] := by rw [← hwa]; exact (has_at11 (by simp))
  have HWA := Lib.hid hwa; have HBWA := Lib.hid hbwa
  have HT := Lib.hid (fun W (hW : Below w.heap.size w W) => ht.under hW)
  have HG0 := Lib.hid h0
  have HG1 := Lib.hid h1
  have HG2 := Lib.hid h2
  obtain ⟨b, hb⟩ : ∃ b, rightP t p = b := ⟨_, rfl⟩
  have HRB := Lib.hid hb
  obtain ⟨bn, hbn⟩ : ∃ b, withinB n 0 1099511627776 = b := ⟨_, rfl⟩
  have HBN := Lib.hid hbn
  clear hwa hbwa h0 h1 h2 hb hbn ht
  go_enter Try.func10, Try.ntmps10
  go_upto_region 1 with fail
  rw [HWA.out]
  clear HWA
  go_step3
  go_wp2_with (first | (with_reducible refine wpList_load_row (o := ⟨some 13, _, _, _, _, _⟩) rfl 27 _ rfl (w.heap.size) rfl 27 (tpC t a) (0, 0) _ (HG0.out).raw11 Try.underlying27 rfl (by kernel_rfl) ?_) | (with_reducible refine wpList_load_row (o := ⟨some 14, _, _, _, _, _⟩) rfl 29 _ rfl (w.heap.size + 1) rfl 29 (psA p) (0, 0) _ (HG1.out).raw11 Try.underlying29 rfl (by kernel_rfl) ?_))
  refine (opl_right t a p wa (HT.out wa HBWA.out) HLT.out HCJ.out).mono ?_
  rw [HRB.out]
  rintro e w1 ⟨rfl, hb⟩
  have HB := HBWA
  clear HBWA
  have HB := Lib.hid (HB.out.trans (hb.mono HB.out.size))
  have HG0 := Lib.hid (HG0.out.under hb HG0.out.lt)
  have HG1 := Lib.hid (HG1.out.under hb HG1.out.lt)
  have HG2 := Lib.hid (HG2.out.under hb HG2.out.lt)
  clear hb
  cases b with
  | false =>
    have HR := Lib.hid (has_row11 HG2.out #[.int .i64 0, .int .i64 0, .bool false])
    have HBF := Lib.hid (below_row (g := w.heap.size + 1 + 1) HB.out (by omega) #[.int .i64 0, .int .i64 0, .bool false])
    go_wp2_with (with_reducible refine wpList_store_rowTo (o := ⟨none, _, _, _, _, _⟩) rfl 29 _ _ rfl rfl (w.heap.size + 1 + 1) #[.int .i64 0, .int .i64 0, .bool false] rfl rfl 29 _ (HG2.out).raw11 (by kernel_rfl) (by kernel_rfl) (by kernel_rfl) ?_)
    try rw [Exit.noGoto_ret]
    refine bodyPost_ret (results_row_tmp11 rfl _ _ (w.heap.size + 1 + 1) 29 _ _ rfl HR.out Try.underlying29 rfl (by kernel_rfl)) rfl ?_
    obtain ⟨rfl, rfl⟩ := Prod.mk.inj (show (rP, rE) = (zeroP, 1) from HWE.out.symm.trans (walkE_bad (fun h_ => by have h2_ := h_.1; rw [HRB.out] at h2_; cases h2_)))
    exact ⟨rfl, HBF.out⟩
  | true =>
    go_wp2_with fail
    refine (plwithin_any n 0 1099511627776 _).mono ?_
    rw [HBN.out]
    rintro e w2 ⟨rfl, rfl⟩
    cases bn with
    | false =>
      have HR := Lib.hid (has_row11 HG2.out #[.int .i64 0, .int .i64 0, .bool false])
      have HBF := Lib.hid (below_row (g := w.heap.size + 1 + 1) HB.out (by omega) #[.int .i64 0, .int .i64 0, .bool false])
      go_wp2_with (with_reducible refine wpList_store_rowTo (o := ⟨none, _, _, _, _, _⟩) rfl 29 _ _ rfl rfl (w.heap.size + 1 + 1) #[.int .i64 0, .int .i64 0, .bool false] rfl rfl 29 _ (HG2.out).raw11 (by kernel_rfl) (by kernel_rfl) (by kernel_rfl) ?_)
      try rw [Exit.noGoto_ret]
      refine bodyPost_ret (results_row_tmp11 rfl _ _ (w.heap.size + 1 + 1) 29 _ _ rfl HR.out Try.underlying29 rfl (by kernel_rfl)) rfl ?_
      obtain ⟨rfl, rfl⟩ := Prod.mk.inj (show (rP, rE) = (zeroP, 1) from HWE.out.symm.trans (walkE_bad (fun h_ => by have h2_ := HBN.out; unfold withinB at h2_; have h3_ := h_.2; simp only [Bool.and_eq_false_iff, decide_eq_false_iff_not] at h2_; omega)))
      exact ⟨rfl, HBF.out⟩
    | true =>
      have HN := Lib.hid (show 0 ≤ n ∧ n ≤ 1099511627776 from by have h2_ := HBN.out; unfold withinB at h2_; simp only [Bool.and_eq_true, decide_eq_true_eq] at h2_; exact h2_)
      have HWF := Lib.hid ((walkE_ok ⟨HRB.out, HN.out⟩).symm.trans HWE.out)
      have HRR := Lib.hid (right_iff.1 HRB.out)
      have HED := Lib.hid (check_routes HRR.out.1).1
      have HON := Lib.hid HRR.out.2
      clear HWE HRB HRR HBN
      obtain ⟨d, hd⟩ : ∃ x, distP t p = x := ⟨_, rfl⟩
      have HD := Lib.hid hd
      have HDO := Lib.hid (show 0 ≤ d ∧ d ≤ 1000000 from by rw [← hd]; exact dist_ok HED.out HON.out)
      clear hd
      have hwr1 : IntKind.i64.wrap (d + n) = d + n := by have h1_ := HN.out; have h2_ := HDO.out; rw [IntKind.wrap_i64]; omega
      obtain ⟨wv, hwv⟩ : ∃ wv, wv = w2 := ⟨_, rfl⟩
      subst hwv
      go_upto_region 3 with fail
      go_cut [8, 9] (fun s8 s9 wx => ∃ gs : Nat, s8 = .pointer (some ⟨gs, 0, none⟩) ∧ s9 = .int .i64 (d + n) ∧ Hid (Has wx gs 45 (stA13 (stepP p))) ∧ Hid (Has wx (w.heap.size) 27 (tpC t a)) ∧ Hid (Has wx (w.heap.size + 1 + 1) 29 #[.int .i64 0, .int .i64 0, .bool false]) ∧ Hid (Below w.heap.size w wx) ∧ Hid (w.heap.size + 1 + 1 < gs))
      case first =>
        refine wp_region_held_drew (S := (fun W_ => Has W_ (w.heap.size) 27 (tpC t a) ∧ Has W_ (w.heap.size + 1) 29 (psA p) ∧ Has W_ (w.heap.size + 1 + 1) 29 #[.int .i64 0, .int .i64 0, .bool false] ∧ Below w.heap.size w W_)) (by kernel_rfl) ?_ (fun hHeld => ?_)
        · exact ⟨HG0.out.draw, HG1.out.draw, HG2.out.draw, below_dr11 HB.out⟩
        refine wpAnyH_take (i := 0) (oi := ⟨some 23, _, _, _, _, _⟩) (v := .agg (psA p)) rfl (by kernel_rfl) (by kernel_rfl) (by kernel_rfl) (fun _ _ _ h => h) (yields_load_row11 29 _ rfl (w.heap.size + 1) rfl 29 (psA p) _ (fun _ ⟨_, h_, _, _⟩ => h_) Try.underlying29 rfl (by kernel_rfl) (by rfl)) (by assumption) ?_
        simp only [Act.put, List.setIfInBounds_toArray, List.set_cons_zero, List.set_cons_succ]
        refine wpAnyH_take (i := 2) (oi := ⟨some 25, _, _, _, _, _⟩) (v := .agg (tpC t a)) rfl (by kernel_rfl) (by kernel_rfl) (by kernel_rfl) (fun _ _ _ h => h) (yields_load_row11 27 _ rfl (w.heap.size) rfl 27 (tpC t a) _ (fun _ ⟨h_, _, _, _⟩ => h_) Try.underlying27 rfl (by kernel_rfl) (by rfl)) (by assumption) ?_
        simp only [Act.put, List.setIfInBounds_toArray, List.set_cons_zero, List.set_cons_succ]
        refine wpAnyH_take (i := 3) (oi := ⟨some 26, _, _, _, _, _⟩) (v := .agg (psA p)) rfl (by kernel_rfl) (by kernel_rfl) (by kernel_rfl) (fun _ _ _ h => h) (yields_load_row11 29 _ rfl (w.heap.size + 1) rfl 29 (psA p) _ (fun _ ⟨_, h_, _, _⟩ => h_) Try.underlying29 rfl (by kernel_rfl) (by rfl)) (by assumption) ?_
        simp only [Act.put, List.setIfInBounds_toArray, List.set_cons_zero, List.set_cons_succ]
        refine wpAnyH_take (i := 5) (oi := ⟨some 28, _, _, _, _, _⟩) (v := ?_) rfl (by kernel_rfl) (by kernel_rfl) (by kernel_rfl) (fun _ _ _ h => h) (Or.inl ⟨by rfl, ?_⟩) (by assumption) ?_
        rotate_left
        · intro w_ hSw; (try dsimp only at hSw); go_simp <;> with_reducible rfl
        simp only [Act.put, List.setIfInBounds_toArray, List.set_cons_zero, List.set_cons_succ]
        refine wpAnyH_ready (rs := [1, 7]) (by kernel_rfl) (by simp) ?_
        refine AllReadyH.cons (o := ⟨some 24, _, _, _, _, _⟩) rfl (fun K hK => ?_) ?_
        · go_simp
          obtain ⟨s0, s1, s2, s3⟩ := hHeld
          refine (plstep_any p _).mono ?_
          rintro e_ v1 ⟨rfl, hbs⟩
          go_wp2_with fail
          refine hK.out _ _ ?_ (fun hHeld => ?_)
          · exact ⟨s0.under hbs s0.lt, s1.under hbs s1.lt, s2.under hbs s2.lt, s3.trans (hbs.mono s3.size)⟩
          clear hK K s0 s1 s2 s3
          try simp only [Act.put, List.setIfInBounds_toArray, List.set_cons_zero, List.set_cons_succ]
          refine wpAnyH_ready (rs := [4, 7]) (by kernel_rfl) (by simp) ?_
          refine AllReadyH.cons (o := ⟨some 27, _, _, _, _, _⟩) rfl (fun K hK => ?_) ?_
          · go_simp
            obtain ⟨s0, s1, s2, s3⟩ := hHeld
            refine (pldist_any t a p _ (HT.out _ s3) HON.out HED.out).mono ?_
            rw [HD.out]
            rintro e_ v2 ⟨rfl, hbs⟩
            go_wp2_with fail
            refine hK.out _ _ ?_ (fun hHeld => ?_)
            · exact ⟨s0.under hbs s0.lt, s1.under hbs s1.lt, s2.under hbs s2.lt, s3.trans (hbs.mono s3.size)⟩
            clear hK K s0 s1 s2 s3
            try simp only [Act.put, List.setIfInBounds_toArray, List.set_cons_zero, List.set_cons_succ]
            refine wpAnyH_take (i := 6) (oi := ⟨some 29, _, _, _, _, _⟩) (v := ?_) rfl (by kernel_rfl) (by kernel_rfl) (by kernel_rfl) (fun _ _ _ h => h) (Or.inl ⟨by rfl, ?_⟩) (by assumption) ?_
            rotate_left
            · intro w_ hSw; (try dsimp only at hSw); go_simp <;> with_reducible rfl
            simp only [Act.put, List.setIfInBounds_toArray, List.set_cons_zero, List.set_cons_succ]
            refine wpAnyH_ready (rs := [7]) (by kernel_rfl) (by simp) ?_
            refine AllReadyH.cons (o := ⟨some 8, _, _, _, _, _⟩) rfl (fun K hK => ?_) ?_
            · go_simp
              obtain ⟨s0, s1, s2, s3⟩ := hHeld
              obtain ⟨gs, hgs⟩ : ∃ gs, v2.heap.size = gs := ⟨_, rfl⟩
              have hgl : w.heap.size < gs := by rw [← hgs]; exact s0.lt
              have hgl1 : w.heap.size + 1 < gs := by rw [← hgs]; exact s1.lt
              have hgl2 : w.heap.size + 1 + 1 < gs := by rw [← hgs]; exact s2.lt
              have hgsle : v2.heap.size ≤ gs := Nat.le_of_eq hgs
              rw [hgs]
              refine hK.out _ _ ?_ (fun hHeld => ?_)
              · exact ⟨s0.beside _, s1.beside _, s2.beside _, below_al11 s3 _⟩
              refine wpAnyH_more11 (T := (fun W_ => Has W_ (w.heap.size) 27 (tpC t a) ∧ Has W_ (w.heap.size + 1) 29 (psA p) ∧ Has W_ (w.heap.size + 1 + 1) 29 #[.int .i64 0, .int .i64 0, .bool false] ∧ Below w.heap.size w W_ ∧ (∃ o_ : Array Value, Has W_ (gs) 45 o_ ∧ o_.size = 2))) (fun _ ⟨s0, s1, s2, s3, s4⟩ => ⟨s0, s1, s2, s3⟩) ?_
              have hHeld2 : (fun W_ => Has W_ (w.heap.size) 27 (tpC t a) ∧ Has W_ (w.heap.size + 1) 29 (psA p) ∧ Has W_ (w.heap.size + 1 + 1) 29 #[.int .i64 0, .int .i64 0, .bool false] ∧ Below w.heap.size w W_ ∧ (∃ o_ : Array Value, Has W_ (gs) 45 o_ ∧ o_.size = 2)) _ := ⟨s0.beside (.cells #[.int .i64 0, .bool false] 45), s1.beside (.cells #[.int .i64 0, .bool false] 45), s2.beside (.cells #[.int .i64 0, .bool false] 45), below_al11 s3 (.cells #[.int .i64 0, .bool false] 45), ⟨#[.int .i64 0, .bool false], (by rw [← hgs]; exact Has.made _ _ _), by kernel_rfl⟩⟩
              clear hHeld
              have hHeld := hHeld2
              clear hHeld2 hK K hgs s0 s1 s2 s3
              try simp only [Act.put, List.setIfInBounds_toArray, List.set_cons_zero, List.set_cons_succ]
              refine wpAnyH_ready (rs := [8]) (by kernel_rfl) (by simp) ?_
              refine AllReadyH.cons (o := ⟨none, _, _, _, _, _⟩) rfl (fun K hK => ?_) ?_
              · rw [if_pos (by rfl)]
                obtain ⟨s0, s1, s2, s3, s4⟩ := hHeld
                obtain ⟨o_, h_, e_⟩ := s4
                refine wp_store_row 45 _ _ rfl (gs) (stA13 (stepP p)) (by rfl) (by rfl) 45 o_ h_.raw11 (by kernel_rfl) e_ (by kernel_rfl) ?_
                refine hK.out _ _ ?_ (fun hHeld => ?_)
                · exact ⟨has_rowo11 s0 (by omega) _, has_rowo11 s1 (by omega) _, has_rowo11 s2 (by omega) _, below_row s3 (by omega) _, ⟨_, has_row11 h_ (stA13 (stepP p)), by kernel_rfl⟩⟩
                refine wpAnyH_more11 (T := (fun W_ => Has W_ (w.heap.size) 27 (tpC t a) ∧ Has W_ (w.heap.size + 1) 29 (psA p) ∧ Has W_ (w.heap.size + 1 + 1) 29 #[.int .i64 0, .int .i64 0, .bool false] ∧ Below w.heap.size w W_ ∧ Has W_ (gs) 45 (stA13 (stepP p)))) (fun _ ⟨s0, s1, s2, s3, s4⟩ => ⟨s0, s1, s2, s3, ⟨_, s4, by kernel_rfl⟩⟩) ?_
                have hHeld2 : (fun W_ => Has W_ (w.heap.size) 27 (tpC t a) ∧ Has W_ (w.heap.size + 1) 29 (psA p) ∧ Has W_ (w.heap.size + 1 + 1) 29 #[.int .i64 0, .int .i64 0, .bool false] ∧ Below w.heap.size w W_ ∧ Has W_ (gs) 45 (stA13 (stepP p))) _ := ⟨has_rowo11 s0 (by omega) _, has_rowo11 s1 (by omega) _, has_rowo11 s2 (by omega) _, below_row s3 (by omega) _, has_row11 h_ (stA13 (stepP p))⟩
                clear hHeld
                have hHeld := hHeld2
                clear hHeld2 hK K h_ e_ s0 s1 s2 s3
                try simp only [Act.put]
                refine wpAnyH_take (i := 9) (oi := ⟨some 9, _, _, _, _, _⟩) (v := ?_) rfl (by kernel_rfl) (by kernel_rfl) (by kernel_rfl) (fun _ _ _ h => h) (Or.inl ⟨by rfl, ?_⟩) (by assumption) ?_
                rotate_left
                · intro w_ hSw; (try dsimp only at hSw); go_simp <;> with_reducible rfl
                simp only [Act.put, List.setIfInBounds_toArray, List.set_cons_zero, List.set_cons_succ]
                refine wpAnyH_done (by kernel_rfl) ?_ _
                go_wp2_with fail
                go_meet
                exact ⟨gs, rfl, rfl, Lib.hid hHeld.2.2.2.2, Lib.hid hHeld.1, Lib.hid hHeld.2.2.1, Lib.hid hHeld.2.2.2.1, Lib.hid hgl2⟩
              exact AllReadyH.nil
            exact AllReadyH.nil
          refine AllReadyH.cons (o := ⟨some 8, _, _, _, _, _⟩) rfl (fun K hK => ?_) ?_
          · go_simp
            obtain ⟨s0, s1, s2, s3⟩ := hHeld
            obtain ⟨gs, hgs⟩ : ∃ gs, v1.heap.size = gs := ⟨_, rfl⟩
            have hgl : w.heap.size < gs := by rw [← hgs]; exact s0.lt
            have hgl1 : w.heap.size + 1 < gs := by rw [← hgs]; exact s1.lt
            have hgl2 : w.heap.size + 1 + 1 < gs := by rw [← hgs]; exact s2.lt
            have hgsle : v1.heap.size ≤ gs := Nat.le_of_eq hgs
            rw [hgs]
            refine hK.out _ _ ?_ (fun hHeld => ?_)
            · exact ⟨s0.beside _, s1.beside _, s2.beside _, below_al11 s3 _⟩
            refine wpAnyH_more11 (T := (fun W_ => Has W_ (w.heap.size) 27 (tpC t a) ∧ Has W_ (w.heap.size + 1) 29 (psA p) ∧ Has W_ (w.heap.size + 1 + 1) 29 #[.int .i64 0, .int .i64 0, .bool false] ∧ Below w.heap.size w W_ ∧ (∃ o_ : Array Value, Has W_ (gs) 45 o_ ∧ o_.size = 2))) (fun _ ⟨s0, s1, s2, s3, s4⟩ => ⟨s0, s1, s2, s3⟩) ?_
            have hHeld2 : (fun W_ => Has W_ (w.heap.size) 27 (tpC t a) ∧ Has W_ (w.heap.size + 1) 29 (psA p) ∧ Has W_ (w.heap.size + 1 + 1) 29 #[.int .i64 0, .int .i64 0, .bool false] ∧ Below w.heap.size w W_ ∧ (∃ o_ : Array Value, Has W_ (gs) 45 o_ ∧ o_.size = 2)) _ := ⟨s0.beside (.cells #[.int .i64 0, .bool false] 45), s1.beside (.cells #[.int .i64 0, .bool false] 45), s2.beside (.cells #[.int .i64 0, .bool false] 45), below_al11 s3 (.cells #[.int .i64 0, .bool false] 45), ⟨#[.int .i64 0, .bool false], (by rw [← hgs]; exact Has.made _ _ _), by kernel_rfl⟩⟩
            clear hHeld
            have hHeld := hHeld2
            clear hHeld2 hK K hgs s0 s1 s2 s3
            try simp only [Act.put, List.setIfInBounds_toArray, List.set_cons_zero, List.set_cons_succ]
            refine wpAnyH_ready (rs := [4]) (by kernel_rfl) (by simp) ?_
            refine AllReadyH.cons (o := ⟨some 27, _, _, _, _, _⟩) rfl (fun K hK => ?_) ?_
            · go_simp
              obtain ⟨s0, s1, s2, s3, s4⟩ := hHeld
              refine (pldist_any t a p _ (HT.out _ s3) HON.out HED.out).mono ?_
              rw [HD.out]
              rintro e_ v2 ⟨rfl, hbs⟩
              go_wp2_with fail
              refine hK.out _ _ ?_ (fun hHeld => ?_)
              · exact ⟨s0.under hbs s0.lt, s1.under hbs s1.lt, s2.under hbs s2.lt, s3.trans (hbs.mono s3.size), (let ⟨o_, h_, e_⟩ := s4; ⟨o_, h_.under hbs h_.lt, e_⟩)⟩
              clear hK K s0 s1 s2 s3 s4
              try simp only [Act.put, List.setIfInBounds_toArray, List.set_cons_zero, List.set_cons_succ]
              refine wpAnyH_take (i := 6) (oi := ⟨some 29, _, _, _, _, _⟩) (v := ?_) rfl (by kernel_rfl) (by kernel_rfl) (by kernel_rfl) (fun _ _ _ h => h) (Or.inl ⟨by rfl, ?_⟩) (by assumption) ?_
              rotate_left
              · intro w_ hSw; (try dsimp only at hSw); go_simp <;> with_reducible rfl
              simp only [Act.put, List.setIfInBounds_toArray, List.set_cons_zero, List.set_cons_succ]
              refine wpAnyH_ready (rs := [8]) (by kernel_rfl) (by simp) ?_
              refine AllReadyH.cons (o := ⟨none, _, _, _, _, _⟩) rfl (fun K hK => ?_) ?_
              · rw [if_pos (by rfl)]
                obtain ⟨s0, s1, s2, s3, s4⟩ := hHeld
                obtain ⟨o_, h_, e_⟩ := s4
                refine wp_store_row 45 _ _ rfl (gs) (stA13 (stepP p)) (by rfl) (by rfl) 45 o_ h_.raw11 (by kernel_rfl) e_ (by kernel_rfl) ?_
                refine hK.out _ _ ?_ (fun hHeld => ?_)
                · exact ⟨has_rowo11 s0 (by omega) _, has_rowo11 s1 (by omega) _, has_rowo11 s2 (by omega) _, below_row s3 (by omega) _, ⟨_, has_row11 h_ (stA13 (stepP p)), by kernel_rfl⟩⟩
                refine wpAnyH_more11 (T := (fun W_ => Has W_ (w.heap.size) 27 (tpC t a) ∧ Has W_ (w.heap.size + 1) 29 (psA p) ∧ Has W_ (w.heap.size + 1 + 1) 29 #[.int .i64 0, .int .i64 0, .bool false] ∧ Below w.heap.size w W_ ∧ Has W_ (gs) 45 (stA13 (stepP p)))) (fun _ ⟨s0, s1, s2, s3, s4⟩ => ⟨s0, s1, s2, s3, ⟨_, s4, by kernel_rfl⟩⟩) ?_
                have hHeld2 : (fun W_ => Has W_ (w.heap.size) 27 (tpC t a) ∧ Has W_ (w.heap.size + 1) 29 (psA p) ∧ Has W_ (w.heap.size + 1 + 1) 29 #[.int .i64 0, .int .i64 0, .bool false] ∧ Below w.heap.size w W_ ∧ Has W_ (gs) 45 (stA13 (stepP p))) _ := ⟨has_rowo11 s0 (by omega) _, has_rowo11 s1 (by omega) _, has_rowo11 s2 (by omega) _, below_row s3 (by omega) _, has_row11 h_ (stA13 (stepP p))⟩
                clear hHeld
                have hHeld := hHeld2
                clear hHeld2 hK K h_ e_ s0 s1 s2 s3
                try simp only [Act.put]
                refine wpAnyH_take (i := 9) (oi := ⟨some 9, _, _, _, _, _⟩) (v := ?_) rfl (by kernel_rfl) (by kernel_rfl) (by kernel_rfl) (fun _ _ _ h => h) (Or.inl ⟨by rfl, ?_⟩) (by assumption) ?_
                rotate_left
                · intro w_ hSw; (try dsimp only at hSw); go_simp <;> with_reducible rfl
                simp only [Act.put, List.setIfInBounds_toArray, List.set_cons_zero, List.set_cons_succ]
                refine wpAnyH_done (by kernel_rfl) ?_ _
                go_wp2_with fail
                go_meet
                exact ⟨gs, rfl, rfl, Lib.hid hHeld.2.2.2.2, Lib.hid hHeld.1, Lib.hid hHeld.2.2.1, Lib.hid hHeld.2.2.2.1, Lib.hid hgl2⟩
              exact AllReadyH.nil
            exact AllReadyH.nil
          exact AllReadyH.nil
        refine AllReadyH.cons (o := ⟨some 8, _, _, _, _, _⟩) rfl (fun K hK => ?_) ?_
        · go_simp
          obtain ⟨s0, s1, s2, s3⟩ := hHeld
          obtain ⟨gs, hgs⟩ : ∃ gs, wv.heap.size = gs := ⟨_, rfl⟩
          have hgl : w.heap.size < gs := by rw [← hgs]; exact s0.lt
          have hgl1 : w.heap.size + 1 < gs := by rw [← hgs]; exact s1.lt
          have hgl2 : w.heap.size + 1 + 1 < gs := by rw [← hgs]; exact s2.lt
          have hgsle : wv.heap.size ≤ gs := Nat.le_of_eq hgs
          rw [hgs]
          refine hK.out _ _ ?_ (fun hHeld => ?_)
          · exact ⟨s0.beside _, s1.beside _, s2.beside _, below_al11 s3 _⟩
          refine wpAnyH_more11 (T := (fun W_ => Has W_ (w.heap.size) 27 (tpC t a) ∧ Has W_ (w.heap.size + 1) 29 (psA p) ∧ Has W_ (w.heap.size + 1 + 1) 29 #[.int .i64 0, .int .i64 0, .bool false] ∧ Below w.heap.size w W_ ∧ (∃ o_ : Array Value, Has W_ (gs) 45 o_ ∧ o_.size = 2))) (fun _ ⟨s0, s1, s2, s3, s4⟩ => ⟨s0, s1, s2, s3⟩) ?_
          have hHeld2 : (fun W_ => Has W_ (w.heap.size) 27 (tpC t a) ∧ Has W_ (w.heap.size + 1) 29 (psA p) ∧ Has W_ (w.heap.size + 1 + 1) 29 #[.int .i64 0, .int .i64 0, .bool false] ∧ Below w.heap.size w W_ ∧ (∃ o_ : Array Value, Has W_ (gs) 45 o_ ∧ o_.size = 2)) _ := ⟨s0.beside (.cells #[.int .i64 0, .bool false] 45), s1.beside (.cells #[.int .i64 0, .bool false] 45), s2.beside (.cells #[.int .i64 0, .bool false] 45), below_al11 s3 (.cells #[.int .i64 0, .bool false] 45), ⟨#[.int .i64 0, .bool false], (by rw [← hgs]; exact Has.made _ _ _), by kernel_rfl⟩⟩
          clear hHeld
          have hHeld := hHeld2
          clear hHeld2 hK K hgs s0 s1 s2 s3
          try simp only [Act.put, List.setIfInBounds_toArray, List.set_cons_zero, List.set_cons_succ]
          refine wpAnyH_ready (rs := [1]) (by kernel_rfl) (by simp) ?_
          refine AllReadyH.cons (o := ⟨some 24, _, _, _, _, _⟩) rfl (fun K hK => ?_) ?_
          · go_simp
            obtain ⟨s0, s1, s2, s3, s4⟩ := hHeld
            refine (plstep_any p _).mono ?_
            rintro e_ v1 ⟨rfl, hbs⟩
            go_wp2_with fail
            refine hK.out _ _ ?_ (fun hHeld => ?_)
            · exact ⟨s0.under hbs s0.lt, s1.under hbs s1.lt, s2.under hbs s2.lt, s3.trans (hbs.mono s3.size), (let ⟨o_, h_, e_⟩ := s4; ⟨o_, h_.under hbs h_.lt, e_⟩)⟩
            clear hK K s0 s1 s2 s3 s4
            try simp only [Act.put, List.setIfInBounds_toArray, List.set_cons_zero, List.set_cons_succ]
            refine wpAnyH_ready (rs := [4]) (by kernel_rfl) (by simp) ?_
            refine AllReadyH.cons (o := ⟨some 27, _, _, _, _, _⟩) rfl (fun K hK => ?_) ?_
            · go_simp
              obtain ⟨s0, s1, s2, s3, s4⟩ := hHeld
              refine (pldist_any t a p _ (HT.out _ s3) HON.out HED.out).mono ?_
              rw [HD.out]
              rintro e_ v2 ⟨rfl, hbs⟩
              go_wp2_with fail
              refine hK.out _ _ ?_ (fun hHeld => ?_)
              · exact ⟨s0.under hbs s0.lt, s1.under hbs s1.lt, s2.under hbs s2.lt, s3.trans (hbs.mono s3.size), (let ⟨o_, h_, e_⟩ := s4; ⟨o_, h_.under hbs h_.lt, e_⟩)⟩
              clear hK K s0 s1 s2 s3 s4
              try simp only [Act.put, List.setIfInBounds_toArray, List.set_cons_zero, List.set_cons_succ]
              refine wpAnyH_take (i := 6) (oi := ⟨some 29, _, _, _, _, _⟩) (v := ?_) rfl (by kernel_rfl) (by kernel_rfl) (by kernel_rfl) (fun _ _ _ h => h) (Or.inl ⟨by rfl, ?_⟩) (by assumption) ?_
              rotate_left
              · intro w_ hSw; (try dsimp only at hSw); go_simp <;> with_reducible rfl
              simp only [Act.put, List.setIfInBounds_toArray, List.set_cons_zero, List.set_cons_succ]
              refine wpAnyH_ready (rs := [8]) (by kernel_rfl) (by simp) ?_
              refine AllReadyH.cons (o := ⟨none, _, _, _, _, _⟩) rfl (fun K hK => ?_) ?_
              · rw [if_pos (by rfl)]
                obtain ⟨s0, s1, s2, s3, s4⟩ := hHeld
                obtain ⟨o_, h_, e_⟩ := s4
                refine wp_store_row 45 _ _ rfl (gs) (stA13 (stepP p)) (by rfl) (by rfl) 45 o_ h_.raw11 (by kernel_rfl) e_ (by kernel_rfl) ?_
                refine hK.out _ _ ?_ (fun hHeld => ?_)
                · exact ⟨has_rowo11 s0 (by omega) _, has_rowo11 s1 (by omega) _, has_rowo11 s2 (by omega) _, below_row s3 (by omega) _, ⟨_, has_row11 h_ (stA13 (stepP p)), by kernel_rfl⟩⟩
                refine wpAnyH_more11 (T := (fun W_ => Has W_ (w.heap.size) 27 (tpC t a) ∧ Has W_ (w.heap.size + 1) 29 (psA p) ∧ Has W_ (w.heap.size + 1 + 1) 29 #[.int .i64 0, .int .i64 0, .bool false] ∧ Below w.heap.size w W_ ∧ Has W_ (gs) 45 (stA13 (stepP p)))) (fun _ ⟨s0, s1, s2, s3, s4⟩ => ⟨s0, s1, s2, s3, ⟨_, s4, by kernel_rfl⟩⟩) ?_
                have hHeld2 : (fun W_ => Has W_ (w.heap.size) 27 (tpC t a) ∧ Has W_ (w.heap.size + 1) 29 (psA p) ∧ Has W_ (w.heap.size + 1 + 1) 29 #[.int .i64 0, .int .i64 0, .bool false] ∧ Below w.heap.size w W_ ∧ Has W_ (gs) 45 (stA13 (stepP p))) _ := ⟨has_rowo11 s0 (by omega) _, has_rowo11 s1 (by omega) _, has_rowo11 s2 (by omega) _, below_row s3 (by omega) _, has_row11 h_ (stA13 (stepP p))⟩
                clear hHeld
                have hHeld := hHeld2
                clear hHeld2 hK K h_ e_ s0 s1 s2 s3
                try simp only [Act.put]
                refine wpAnyH_take (i := 9) (oi := ⟨some 9, _, _, _, _, _⟩) (v := ?_) rfl (by kernel_rfl) (by kernel_rfl) (by kernel_rfl) (fun _ _ _ h => h) (Or.inl ⟨by rfl, ?_⟩) (by assumption) ?_
                rotate_left
                · intro w_ hSw; (try dsimp only at hSw); go_simp <;> with_reducible rfl
                simp only [Act.put, List.setIfInBounds_toArray, List.set_cons_zero, List.set_cons_succ]
                refine wpAnyH_done (by kernel_rfl) ?_ _
                go_wp2_with fail
                go_meet
                exact ⟨gs, rfl, rfl, Lib.hid hHeld.2.2.2.2, Lib.hid hHeld.1, Lib.hid hHeld.2.2.1, Lib.hid hHeld.2.2.2.1, Lib.hid hgl2⟩
              exact AllReadyH.nil
            exact AllReadyH.nil
          exact AllReadyH.nil
        exact AllReadyH.nil
      case rest =>
        clear HB HG0 HG1 HG2 hwr1
        obtain ⟨gs, rfl, rfl, HGS, HG0, HG2, HB, HGL⟩ := hcut
        go_wp2
        go_step3
        go_wp2
        go_loopg [9, 10] 41 (fun kk v9 v10 wl => ∃ (l : Nat) (m rr : Int) (q : Ps3), l ≤ 40 ∧ 41 - l ≤ kk ∧ v10 = .int .i64 l ∧ v9 = .int .i64 rr ∧ Hid (rr = distP t q + m) ∧ Hid (0 ≤ m ∧ m ≤ 1099511627776) ∧ Hid (onB t q = true) ∧ Hid (walkF t (40 - l) q m = (rP, rE)) ∧ Hid (Below w.heap.size w wl) ∧ Hid (Has wl (w.heap.size) 27 (tpC t a)) ∧ Hid (Has wl gs 45 (stA13 (stepP q))) ∧ Hid (Has wl (w.heap.size + 1 + 1) 29 #[.int .i64 0, .int .i64 0, .bool false]))
        case atStart => exact ⟨0, n, d + n, p, by omega, by omega, rfl, rfl, Lib.hid (by rw [HD.out]), HN, HON, HWF, HB, HG0, HGS, HG2⟩
        case round =>
          clear HWF HN HON HB HG0 HGS HG2 HD HDO
          obtain ⟨l, m, rr, q, hl, hlk, rfl, rfl, HRRR, HM, HON, HWF, HB, HG0, HGS, HG2⟩ := hrel
          obtain ⟨ah, hah⟩ : ∃ x, aheadP t q = x := ⟨_, rfl⟩
          have HAH := Lib.hid hah
          have HAB := Lib.hid (show 0 ≤ ah ∧ ah ≤ 1000000 from by rw [← hah]; exact ahead_ok HED.out HON.out)
          have hqe := (on_iff.1 HON.out).1
          have HQE := Lib.hid (show edgeB t (stepP q).edge = true from hqe)
          have hqe2 := hqe
          unfold edgeB at hqe2
          simp only [Bool.and_eq_true, decide_eq_true_eq] at hqe2
          obtain ⟨ke, hke⟩ : ∃ k : Nat, q.edge = k := ⟨q.edge.toNat, by omega⟩
          have hkl : ke < t.edges.length := by omega
          obtain ⟨be, oe, hae, -⟩ := (HT.out wr HB.out).e.edge hkl
          obtain ⟨lq, hlq⟩ : ∃ x, t.edges.getD ke 0 = x := ⟨_, rfl⟩
          have HLQ := Lib.hid (show edgeLen t q.edge = lq from by rw [hke]; exact hlq)
          have HLB := Lib.hid (show 1 ≤ lq ∧ lq ≤ 1000000 from by rw [← HLQ.out]; exact lenAt_ok HED.out (s := stepP q) hqe)
          have HRA := Lib.hid (show rr = lq - ah + m from by rw [HRRR.out, dist_ahead, HLQ.out, hah])
          obtain ⟨ne, hne⟩ : ∃ x, t.edges.length = x := ⟨_, rfl⟩
          have HCE : Hid (∀ W, Has W (w.heap.size) 27 (tpC t a) → W.cell? ⟨w.heap.size, 0, none⟩ = some (.slice (some ⟨be, oe, none⟩) ne a.ce)) := Lib.hid fun W hW => by
            have c_ : W.cell? ⟨w.heap.size, 0, none⟩ = some (.slice a.ae t.edges.length a.ce) := hW.cell 0
            rw [hae, hne] at c_
            exact c_
          have HCQ : Hid (∀ W, Below w.heap.size w W → W.cell? ⟨be, oe + ke, none⟩ = some (.int .i64 lq)) := Lib.hid fun W hW => by
            obtain ⟨b_, o_, e_, h_⟩ := (HT.out W hW).e.edge hkl
            rw [hae] at e_
            injection e_ with e_
            injection e_ with e1_ e2_ _
            subst e1_ e2_
            rw [hlq] at h_
            exact h_
          have HKE := Lib.hid hke
          rw [hne] at hkl
          have y0 : (0 : Int) ≤ ke := by omega
          have y1 : (ke : Int) < ne := by omega
          clear hah hqe hqe2 hke hkl hae hlq hne
          obtain ⟨wv2, hwv2⟩ : ∃ wv, wv = wr := ⟨_, rfl⟩
          subst hwv2
          obtain ⟨k1, hk1⟩ : ∃ k1, k1 = gk := ⟨_, rfl⟩
          subst hk1
          go_upto_region 6 with fail
          refine wp_region_held_drew (S := (fun W_ => Has W_ (w.heap.size) 27 (tpC t a) ∧ Has W_ (gs) 45 (stA13 (stepP q)) ∧ Has W_ (w.heap.size + 1 + 1) 29 #[.int .i64 0, .int .i64 0, .bool false] ∧ Below w.heap.size w W_)) (by kernel_rfl) ?_ (fun hHeld => ?_)
          · exact ⟨HG0.out.draw, HGS.out.draw, HG2.out.draw, below_dr11 HB.out⟩
          refine wpAnyH_take (i := 0) (oi := ⟨some 32, _, _, _, _, _⟩) (v := ?_) rfl (by kernel_rfl) (by kernel_rfl) (by kernel_rfl) (fun _ _ _ h => h) (Or.inl ⟨by rfl, ?_⟩) (by assumption) ?_
          rotate_left
          · intro w_ hSw; (try dsimp only at hSw); go_simp <;> with_reducible rfl
          simp only [Act.put, List.setIfInBounds_toArray, List.set_cons_zero, List.set_cons_succ]
          refine wpAnyH_take (i := 1) (oi := ⟨some 33, _, _, _, _, _⟩) (v := ?_) rfl (by kernel_rfl) (by kernel_rfl) (by kernel_rfl) (fun _ _ _ h => h) (Or.inl ⟨by rfl, ?_⟩) (by assumption) ?_
          rotate_left
          · intro w_ hSw; (try dsimp only at hSw); have c0_ : w_.cell? ⟨w.heap.size, 0, none⟩ = some (.slice (some ⟨be, oe, none⟩) ne a.ce) := HCE.out w_ hSw.1; go_simp <;> with_reducible rfl
          simp only [Act.put, List.setIfInBounds_toArray, List.set_cons_zero, List.set_cons_succ]
          refine wpAnyH_take (i := 2) (oi := ⟨some 34, _, _, _, _, _⟩) (v := ?_) rfl (by kernel_rfl) (by kernel_rfl) (by kernel_rfl) (fun _ _ _ h => h) (Or.inl ⟨by rfl, ?_⟩) (by assumption) ?_
          rotate_left
          · intro w_ hSw; (try dsimp only at hSw); go_simp <;> with_reducible rfl
          simp only [Act.put, List.setIfInBounds_toArray, List.set_cons_zero, List.set_cons_succ]
          refine wpAnyH_take (i := 3) (oi := ⟨some 35, _, _, _, _, _⟩) (v := ?_) rfl (by kernel_rfl) (by kernel_rfl) (by kernel_rfl) (fun _ _ _ h => h) (Or.inl ⟨by rfl, ?_⟩) (by assumption) ?_
          rotate_left
          · intro w_ hSw; (try dsimp only at hSw); have d0_ : w_.cell? ⟨gs, 0, none⟩ = some (.int .i64 (ke : Int)) := (by have h_ := hSw.2.1.cell 0; rw [← HKE.out]; exact h_); go_simp <;> with_reducible rfl
          simp only [Act.put, List.setIfInBounds_toArray, List.set_cons_zero, List.set_cons_succ]
          refine wpAnyH_take (i := 4) (oi := ⟨some 36, _, _, _, _, _⟩) (v := ?_) rfl (by kernel_rfl) (by kernel_rfl) (by kernel_rfl) (fun _ _ _ h => h) (Or.inl ⟨by rfl, ?_⟩) (by assumption) ?_
          rotate_left
          · intro w_ hSw; (try dsimp only at hSw); go_simp <;> with_reducible rfl
          simp only [Act.put, List.setIfInBounds_toArray, List.set_cons_zero, List.set_cons_succ]
          refine wpAnyH_take (i := 5) (oi := ⟨some 37, _, _, _, _, _⟩) (v := ?_) rfl (by kernel_rfl) (by kernel_rfl) (by kernel_rfl) (fun _ _ _ h => h) (Or.inl ⟨by rfl, ?_⟩) (by assumption) ?_
          rotate_left
          · intro w_ hSw; (try dsimp only at hSw); have ce_ := HCQ.out w_ hSw.2.2.2; go_simp <;> with_reducible rfl
          simp only [Act.put, List.setIfInBounds_toArray, List.set_cons_zero, List.set_cons_succ]
          refine wpAnyH_take (i := 6) (oi := ⟨some 38, _, _, _, _, _⟩) (v := .agg (tpC t a)) rfl (by kernel_rfl) (by kernel_rfl) (by kernel_rfl) (fun _ _ _ h => h) (yields_load_row11 27 _ rfl (w.heap.size) rfl 27 (tpC t a) _ (fun _ ⟨h_, _, _, _⟩ => h_) Try.underlying27 rfl (by kernel_rfl) (by rfl)) (by assumption) ?_
          simp only [Act.put, List.setIfInBounds_toArray, List.set_cons_zero, List.set_cons_succ]
          refine wpAnyH_take (i := 7) (oi := ⟨some 39, _, _, _, _, _⟩) (v := .agg (stA13 (stepP q))) rfl (by kernel_rfl) (by kernel_rfl) (by kernel_rfl) (fun _ _ _ h => h) (yields_load_row11 45 _ rfl (gs) rfl 45 (stA13 (stepP q)) _ (fun _ ⟨_, h_, _, _⟩ => h_) Try.underlying45 rfl (by kernel_rfl) (by rfl)) (by assumption) ?_
          simp only [Act.put, List.setIfInBounds_toArray, List.set_cons_zero, List.set_cons_succ]
          refine wpAnyH_ready (rs := [8]) (by kernel_rfl) (by simp) ?_
          refine AllReadyH.cons (o := ⟨some 40, _, _, _, _, _⟩) rfl (fun K hK => ?_) ?_
          · go_simp
            obtain ⟨s0, s1, s2, s3⟩ := hHeld
            refine (otp_after t a (stepP q) _ (HT.out _ s3) HLT.out).mono ?_
            rintro e_ v1 ⟨A2, c2, rfl, hs_, hbs⟩
            have HSL := Lib.hid hs_
            clear hs_
            go_wp2_with fail
            refine hK.out _ _ ?_ (fun hHeld => ?_)
            · exact ⟨s0.under hbs s0.lt, s1.under hbs s1.lt, s2.under hbs s2.lt, s3.trans (hbs.mono s3.size)⟩
            refine wpAnyH_more11 (T := (fun W_ => Has W_ (w.heap.size) 27 (tpC t a) ∧ Has W_ (gs) 45 (stA13 (stepP q)) ∧ Has W_ (w.heap.size + 1 + 1) 29 #[.int .i64 0, .int .i64 0, .bool false] ∧ Below w.heap.size w W_ ∧ SlO stC 2 W_ A2 ((afterL t (stepP q)).length) c2 (afterL t (stepP q)))) (fun _ ⟨s0, s1, s2, s3, s4⟩ => ⟨s0, s1, s2, s3⟩) ?_
            have hHeld2 : (fun W_ => Has W_ (w.heap.size) 27 (tpC t a) ∧ Has W_ (gs) 45 (stA13 (stepP q)) ∧ Has W_ (w.heap.size + 1 + 1) 29 #[.int .i64 0, .int .i64 0, .bool false] ∧ Below w.heap.size w W_ ∧ SlO stC 2 W_ A2 ((afterL t (stepP q)).length) c2 (afterL t (stepP q))) _ := ⟨s0.under hbs s0.lt, s1.under hbs s1.lt, s2.under hbs s2.lt, s3.trans (hbs.mono s3.size), HSL.out⟩
            clear hHeld
            have hHeld := hHeld2
            clear hHeld2
            clear hK K s0 s1 s2 s3
            try simp only [Act.put, List.setIfInBounds_toArray, List.set_cons_zero, List.set_cons_succ]
            refine wpAnyH_take (i := 9) (oi := ⟨some 11, _, _, _, _, _⟩) (v := ?_) rfl (by kernel_rfl) (by kernel_rfl) (by kernel_rfl) (fun _ _ _ h => h) (Or.inl ⟨by rfl, ?_⟩) (by assumption) ?_
            rotate_left
            · intro w_ hSw; (try dsimp only at hSw); go_simp <;> with_reducible rfl
            simp only [Act.put, List.setIfInBounds_toArray, List.set_cons_zero, List.set_cons_succ]
            refine wpAnyH_take (i := 10) (oi := ⟨some 12, _, _, _, _, _⟩) (v := ?_) rfl (by kernel_rfl) (by kernel_rfl) (by kernel_rfl) (fun _ _ _ h => h) (Or.inl ⟨by rfl, ?_⟩) (by assumption) ?_
            rotate_left
            · intro w_ hSw; (try dsimp only at hSw); go_simp <;> with_reducible rfl
            simp only [Act.put, List.setIfInBounds_toArray, List.set_cons_zero, List.set_cons_succ]
            refine wpAnyH_done (by kernel_rfl) ?_ _
            have HB := Lib.hid hHeld.2.2.2.1
            have HG0 := Lib.hid hHeld.1
            have HGS := Lib.hid hHeld.2.1
            have HG2 := Lib.hid hHeld.2.2.1
            have HSL := Lib.hid hHeld.2.2.2.2
            clear hHeld y0 y1 HCE HCQ
            obtain ⟨w3, hw3⟩ : ∃ w3, w3 = v1 := ⟨_, rfl⟩
            subst hw3
            obtain ⟨k, hk⟩ : ∃ k, (afterL t (stepP q)).length = k := ⟨_, rfl⟩
            have HK := Lib.hid hk
            rw [hk] at HSL
            simp only [hk]
            clear hk
            by_cases hle : m ≤ ah
            · have x1 : rr ≤ lq := by have := HRA.out; omega
              have HLE := Lib.hid hle
              clear hle
              go_upto_region 15 with fail
              clear x1 hl hlk
              go_wp2_with (first | (with_reducible refine wpList_load_row (o := ⟨some 65, _, _, _, _, _⟩) rfl 27 _ rfl (w.heap.size) rfl 27 (tpC t a) (0, 0) _ (HG0.out).raw11 Try.underlying27 rfl (by kernel_rfl) ?_) | (with_reducible refine wpList_load_row (o := ⟨some 66, _, _, _, _, _⟩) rfl 45 _ rfl (gs) rfl 45 (stA13 (stepP q)) (0, 0) _ (HGS.out).raw11 Try.underlying45 rfl (by kernel_rfl) ?_))
              refine (plpos_any t a (stepP q) rr w3 (HT.out w3 HB.out) HQE.out HED.out (by have h1_ := HRA.out; have h2_ := HM.out; have h3_ := ahead_ok HED.out HON.out; have h4_ := dist_ok HED.out HON.out; rw [HRRR.out]; omega) (by have h1_ := HRA.out; have h2_ := HLE.out; have h3_ : edgeLen t (stepP q).edge = lq := HLQ.out; rw [h3_]; omega)).mono ?_
              rw [show posP t (stepP q) rr = movedP q m from by rw [HRRR.out, pos_dist]]
              rintro e w4 ⟨rfl, hb⟩
              have HB := Lib.hid (HB.out.trans (hb.mono HB.out.size))
              have HG0 := Lib.hid (HG0.out.under hb HG0.out.lt)
              have HG2 := Lib.hid (HG2.out.under hb HG2.out.lt)
              clear hb
              have HR := Lib.hid (has_row11 HG2.out (psA (movedP q m)))
              have HBF := Lib.hid (below_row (g := w.heap.size + 1 + 1) HB.out (by omega) (psA (movedP q m)))
              go_wp2_with (with_reducible refine wpList_store_rowTo (o := ⟨none, _, _, _, _, _⟩) rfl 29 _ _ rfl rfl (w.heap.size + 1 + 1) (psA (movedP q m)) rfl rfl 29 _ (HG2.out).raw11 (by kernel_rfl) (by kernel_rfl) (by kernel_rfl) ?_)
              try rw [Exit.noGoto_ret]
              refine bodyPost_ret (results_row_tmp11 rfl _ _ (w.heap.size + 1 + 1) 29 _ _ rfl HR.out Try.underlying29 rfl (by kernel_rfl)) rfl ?_
              obtain ⟨rfl, rfl⟩ := Prod.mk.inj (HWF.out.symm.trans (walk_here (by rw [HAH.out]; exact HLE.out)))
              exact ⟨rfl, HBF.out⟩
            have x1 : ¬ rr ≤ lq := by have := HRA.out; omega
            have HLE := Lib.hid (show aheadP t q < m from by rw [HAH.out]; omega)
            clear hle
            by_cases hk0 : k = 0
            · have x2 : (k : Int) = 0 := by omega
              have HK0 := Lib.hid hk0
              clear hk0
              have HR := Lib.hid (has_row11 HG2.out #[.int .i64 0, .int .i64 0, .bool false])
              have HBF := Lib.hid (below_row (g := w.heap.size + 1 + 1) HB.out (by omega) #[.int .i64 0, .int .i64 0, .bool false])
              go_wp2_with (with_reducible refine wpList_store_rowTo (o := ⟨none, _, _, _, _, _⟩) rfl 29 _ _ rfl rfl (w.heap.size + 1 + 1) #[.int .i64 0, .int .i64 0, .bool false] rfl rfl 29 _ (HG2.out).raw11 (by kernel_rfl) (by kernel_rfl) (by kernel_rfl) ?_)
              try rw [Exit.noGoto_ret]
              refine bodyPost_ret (results_row_tmp11 rfl _ _ (w.heap.size + 1 + 1) 29 _ _ rfl HR.out Try.underlying29 rfl (by kernel_rfl)) rfl ?_
              obtain ⟨rfl, rfl⟩ := Prod.mk.inj (show (rP, rE) = (zeroP, 141) from HWF.out.symm.trans (walk_end (Int.not_le.2 HLE.out) (HK.out.trans HK0.out)))
              exact ⟨rfl, HBF.out⟩
            have x2 : ¬ (k : Int) = 0 := by omega
            by_cases hk1 : 1 < k
            · have x3 : (1 : Int) < k := by omega
              have HK1 := Lib.hid hk1
              clear hk1 hk0
              have HR := Lib.hid (has_row11 HG2.out #[.int .i64 0, .int .i64 0, .bool false])
              have HBF := Lib.hid (below_row (g := w.heap.size + 1 + 1) HB.out (by omega) #[.int .i64 0, .int .i64 0, .bool false])
              go_wp2_with (with_reducible refine wpList_store_rowTo (o := ⟨none, _, _, _, _, _⟩) rfl 29 _ _ rfl rfl (w.heap.size + 1 + 1) #[.int .i64 0, .int .i64 0, .bool false] rfl rfl 29 _ (HG2.out).raw11 (by kernel_rfl) (by kernel_rfl) (by kernel_rfl) ?_)
              try rw [Exit.noGoto_ret]
              refine bodyPost_ret (results_row_tmp11 rfl _ _ (w.heap.size + 1 + 1) 29 _ _ rfl HR.out Try.underlying29 rfl (by kernel_rfl)) rfl ?_
              obtain ⟨rfl, rfl⟩ := Prod.mk.inj (show (rP, rE) = (zeroP, 140) from HWF.out.symm.trans (walk_fork (Int.not_le.2 HLE.out) (by rw [HK.out]; exact HK1.out)))
              exact ⟨rfl, HBF.out⟩
            have x3 : ¬ (1 : Int) < k := by omega
            obtain ⟨s, hs⟩ := len_one (l := afterL t (stepP q)) (by rw [HK.out]; omega)
            have HS := Lib.hid hs
            rw [hs] at HSL
            clear hs
            have hk2 : k = 1 := by omega
            clear hk0 hk1
            by_cases hl4 : l = 40
            · have x4 : (l : Int) = 40 := by omega
              have HL4 := Lib.hid hl4
              clear hl4 hl hlk hk2
              have HR := Lib.hid (has_row11 HG2.out #[.int .i64 0, .int .i64 0, .bool false])
              have HBF := Lib.hid (below_row (g := w.heap.size + 1 + 1) HB.out (by omega) #[.int .i64 0, .int .i64 0, .bool false])
              go_wp2_with (with_reducible refine wpList_store_rowTo (o := ⟨none, _, _, _, _, _⟩) rfl 29 _ _ rfl rfl (w.heap.size + 1 + 1) #[.int .i64 0, .int .i64 0, .bool false] rfl rfl 29 _ (HG2.out).raw11 (by kernel_rfl) (by kernel_rfl) (by kernel_rfl) ?_)
              try rw [Exit.noGoto_ret]
              refine bodyPost_ret (results_row_tmp11 rfl _ _ (w.heap.size + 1 + 1) 29 _ _ rfl HR.out Try.underlying29 rfl (by kernel_rfl)) rfl ?_
              obtain ⟨rfl, rfl⟩ := Prod.mk.inj (show (rP, rE) = (zeroP, 2) from HWF.out.symm.trans (by rw [show 40 - l = 0 by have := HL4.out; omega]; exact walk_long (Int.not_le.2 HLE.out) (by rw [HS.out]; rfl)))
              exact ⟨rfl, HBF.out⟩
            have x4 : ¬ (l : Int) = 40 := by omega
            have HL := Lib.hid (show l < 40 by omega)
            clear hl4
            go_upto_region 14 with fail
            clear x1 x2 x3 x4
            have hk3 := hk2
            subst hk3
            clear HK
            have hwr2 : IntKind.i64.wrap (rr - lq) = rr - lq := by have h1_ := HM.out; have h2_ := HAB.out; have h3_ := HRA.out; have h4_ := HLB.out; rw [IntKind.wrap_i64]; omega
            have HEB := Lib.hid (show edgeB t s.edge = true from (after_mem.1 (show s ∈ afterL t (stepP q) from by rw [HS.out]; exact List.mem_singleton.2 rfl)).2.1)
            have hx0 : ([s] : List St3)[0]? = some s := rfl
            obtain ⟨bk, off, hA2, e0, e1⟩ := HSL.out.step hx0
            have HA2 := Lib.hid hA2
            simp only [hA2]
            clear hA2 hx0
            simp only [Nat.zero_mul, Nat.add_zero] at e0 e1
            have HNS := Lib.hid (has_row11 HGS.out #[.int .i64 s.edge, .bool s.rev])
            have HN0 := Lib.hid (has_rowo11 HG0.out (by have := HGL.out; omega) #[.int .i64 s.edge, .bool s.rev] : Has (w3.setRow gs #[.int .i64 s.edge, .bool s.rev]) (w.heap.size) 27 (tpC t a))
            have HN2 := Lib.hid (has_rowo11 HG2.out (by have := HGL.out; omega) #[.int .i64 s.edge, .bool s.rev] : Has (w3.setRow gs #[.int .i64 s.edge, .bool s.rev]) (w.heap.size + 1 + 1) 29 #[.int .i64 0, .int .i64 0, .bool false])
            have HNB := Lib.hid (below_row (g := gs) HB.out (by have := HGL.out; omega) #[.int .i64 s.edge, .bool s.rev])
            go_wp2_with (with_reducible refine wpList_store_rowTo (o := ⟨none, _, _, _, _, _⟩) rfl 45 _ _ rfl rfl (gs) #[.int .i64 s.edge, .bool s.rev] rfl rfl 45 _ (HGS.out).raw11 (by kernel_rfl) (by kernel_rfl) (by kernel_rfl) ?_)
            go_roundg (k1 - 1)
            case measure => omega
            case rel =>
              refine ⟨l + 1, m - ah, _, beginP t s, by have := HL.out; omega, by omega, by go_num, rfl, Lib.hid (by rw [dist_begin, Int.zero_add]; have := HRA.out; omega), Lib.hid (by have h1_ := HM.out; have h2_ := HAB.out; have h3_ := HLE.out; rw [HAH.out] at h3_; omega), Lib.hid (begin_on HED.out HEB.out), Lib.hid ?_, HNB, HN0, Lib.hid (by rw [step_begin]; exact HNS.out), HN2⟩
              rw [← HAH.out, show 40 - (l + 1) = 40 - l - 1 by omega, ← walk_next14 (Int.not_le.2 HLE.out) HS.out (by have := HL.out; omega)]
              exact HWF.out
          exact AllReadyH.nil

end Go.Proofs.Ytfchmjldhefmkaa
