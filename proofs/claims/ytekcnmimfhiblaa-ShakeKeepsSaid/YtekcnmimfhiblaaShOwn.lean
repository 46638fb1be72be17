/-
  package shake as landed: Done.
-/
import Derived.Test.YtekcnmimfhiblaaShOwnD
import Derived.Deep.DeepCutAuto
namespace Go.Proofs.Ytekcnmimfhiblaa
open Go.RowKit
open Go.Great

theorem doneE (p : Peer) (q : Pdu) : shDone p q = if shDoneE p q = 0 then ({ shWith p 2 ⟨p.a2, p.b2, deriveF p.base p.a2 p.b2⟩ with half := false, a2 := 0, b2 := 0 }, 0) else (peer0, shDoneE p q) := by
  unfold shDone shDoneE
  by_cases h1 : p.side ≠ 0 ∧ shFits p q 3
  · by_cases h2 : p.half = true
    · by_cases h3 : q.a = p.a2 ∧ q.b = p.b2
      · by_cases h4 : pdRight p.base q
        · simp only [if_pos h1, if_pos h2, if_pos h3, if_pos h4]; rfl
        · simp only [if_pos h1, if_pos h2, if_pos h3, if_neg h4]; rfl
      · simp only [if_pos h1, if_pos h2, if_neg h3]; rfl
    · simp only [if_pos h1, if_neg h2]; rfl
  · simp only [if_neg h1]; rfl
set_option maxRecDepth 100000 in
set_option maxHeartbeats 4000000 in
theorem osh_done (p : Peer) (q : Pdu) (A : Option Addr) (c : Nat) (hpo : p.ok) (hk : q.ok) (hn : q.body.length ≤ 2000) (w : World) (hs : Sl w 1 A q.body.length c (u8s q.body)) :
    Calls Try.prog 17 #[prV p, pdV q A c] w (ShPost2 (shDone p q) w) := by
  rw [doneE]
  obtain ⟨wa, hwa⟩ : ∃ wa, ((w.alloc (.cells (prA p) 26)).alloc (.cells (pdA q A c) 30)).alloc (.cells #[.int .i64 0, .int .i64 0, .int .u32 0, .int .u32 0, .int .u32 0, .int .u32 0, .int .i64 0, .int .u32 0, .int .u32 0, .int .u32 0, .int .u32 0, .int .u32 0, .int .u32 0, .bool false, .int .u32 0, .int .u32 0] 26) = wa := ⟨_, rfl⟩
  have hbwa : Below w.heap.size w wa := by rw [← hwa]; exact (((Below.refl _ _).alloc (Nat.le_refl _) _).alloc (by simp) _).alloc (by simp; omega) _
  have h0 : Has wa (w.heap.size) 26 (prA p) := by rw [← hwa]; exact (((Has.made _ _ _).beside _).beside _)
  have h1 : Has wa (w.heap.size + 1) 30 (pdA q A c) := by rw [← hwa]; exact ((has_at (by simp)).beside _)
  have h2 : Has wa (w.heap.size + 1 + 1) 26 #[.int .i64 0, .int .i64 0, .int .u32 0, .int .u32 0, .int .u32 0, .int .u32 0, .int .i64 0, .int .u32 0, .int .u32 0, .int .u32 0, .int .u32 0, .int .u32 0, .int .u32 0, .bool false, .int .u32 0, .int .u32 0] := by rw [← hwa]; exact (has_at (by simp))
  have HWA := Lib.hid hwa; have HBWA := Lib.hid hbwa
  have HF := Lib.hid (osh_finishable p q A c hpo hk hn wa (hs.under hbwa))
  have HD := Lib.hid (fun W => osh_made p.base hpo.1 p.a2 p.b2 hpo.2.2.2.2.1 hpo.2.2.2.2.2 W)
  generalize deriveF p.base p.a2 p.b2 = dk at *
  have HW := Lib.hid (fun W => osh_with p 2 ⟨p.a2, p.b2, dk⟩ W)
  have HP := Lib.hid h0; have HQ := Lib.hid h1
  have HC := Lib.hid (fun W (hW : Below wa.heap.size wa W) => And.intro (h0.under hW h0.lt) (And.intro (h1.under hW h1.lt) (h2.under hW h2.lt)))
  clear hwa hbwa h0 h1 h2
  clear hpo hk hn hs
  generalize shDoneE p q = E at *
  by_cases f1 : E = 0
  rotate_left
  · rw [if_neg f1]
    have s0 : (E != 0) = true := by simp [f1]
    clear f1 HD HW
    unfold prV pdV at *
    go_enter Try.func17, Try.ntmps17
    go_upto_region 1 with fail
    rw [HWA.out]
    clear HWA
    go_wp2_with (first | (with_reducible refine wpList_load_row (o := ⟨some 7, _, _, _, _, _⟩) rfl 26 _ rfl (w.heap.size) rfl 26 (prA p) (0, 0) _ (HP.out).raw Try.underlying26 rfl (by kernel_rfl) ?_) | (with_reducible refine wpList_load_row (o := ⟨some 8, _, _, _, _, _⟩) rfl 30 _ rfl (w.heap.size + 1) rfl 30 (pdA q A c) (0, 0) _ (HQ.out).raw Try.underlying30 rfl (by kernel_rfl) ?_))
    refine HF.out.mono ?_
    rintro e w2 ⟨rfl, hb2⟩
    obtain ⟨_, _, hz1⟩ := HC.out w2 hb2
    have HZ1 := Lib.hid hz1; have HBW := Lib.hid (HBWA.out.trans (hb2.mono HBWA.out.size))
    clear hz1 hb2 HC HP HQ
    have HX0 := Lib.hid (HZ1.out); have HX2 := Lib.hid (has_setRow7 HZ1.out (prA peer0))
    have HXB := Lib.hid (below_row (g := w.heap.size + 1 + 1) HBW.out (by omega) (prA peer0))
    go_wp2_with (with_reducible refine wpList_store_rowTo (o := ⟨none, _, _, _, _, _⟩) rfl 26 _ _ rfl rfl (w.heap.size + 1 + 1) (prA peer0) rfl rfl 26 _ (HX0.out).raw (by kernel_rfl) (by kernel_rfl) (by kernel_rfl) ?_)
    refine bodyPost_ret (results_row_tmp9 rfl _ _ (w.heap.size + 1 + 1) 26 _ _ rfl HX2.out Try.underlying26 rfl (by kernel_rfl)) rfl ?_
    exact ⟨rfl, HXB.out⟩
  subst f1
  rw [if_pos rfl]
  unfold prV pdV cnV keyV keyA at *
  go_enter Try.func17, Try.ntmps17
  go_upto_region 1 with fail
  rw [HWA.out]
  clear HWA
  go_wp2_with (first | (with_reducible refine wpList_load_row (o := ⟨some 7, _, _, _, _, _⟩) rfl 26 _ rfl (w.heap.size) rfl 26 (prA p) (0, 0) _ (HP.out).raw Try.underlying26 rfl (by kernel_rfl) ?_) | (with_reducible refine wpList_load_row (o := ⟨some 8, _, _, _, _, _⟩) rfl 30 _ rfl (w.heap.size + 1) rfl 30 (pdA q A c) (0, 0) _ (HQ.out).raw Try.underlying30 rfl (by kernel_rfl) ?_))
  refine HF.out.mono ?_
  rintro e w1 ⟨rfl, hb1⟩
  obtain ⟨hp, _, hz1⟩ := HC.out w1 hb1
  have HBW := Lib.hid (HBWA.out.trans (hb1.mono HBWA.out.size))
  have HP1 := Lib.hid hp; have HZ1 := Lib.hid hz1
  clear hb1 HC HP HQ HF HBWA hp hz1
  go_upto_region 4 with fail
  go_cut [] (fun wx => Has wx (w.heap.size) 26 (prA (shWith p 2 ⟨p.a2, p.b2, dk⟩)) ∧ Has wx (w.heap.size + 1 + 1) 26 #[.int .i64 0, .int .i64 0, .int .u32 0, .int .u32 0, .int .u32 0, .int .u32 0, .int .i64 0, .int .u32 0, .int .u32 0, .int .u32 0, .int .u32 0, .int .u32 0, .int .u32 0, .bool false, .int .u32 0, .int .u32 0] ∧ Below w.heap.size w wx)
  case first =>
    refine wp_region_held_drew (S := (fun W_ => ∃ r : Peer, r.base = p.base ∧ r.a2 = p.a2 ∧ r.b2 = p.b2 ∧ Has W_ (w.heap.size) 26 (prA r))) (by kernel_rfl) ?_ (fun hHeld => ?_)
    · exact ⟨p, rfl, rfl, rfl, HP1.out.draw⟩
    refine wpAnyH_take (i := 1) (oi := ⟨some 15, _, _, _, _, _⟩) (v := ?_) rfl (by kernel_rfl) (by kernel_rfl) (by kernel_rfl) (fun _ _ _ h => h) (Or.inl ⟨by rfl, ?_⟩) (by assumption) ?_
    rotate_left
    · intro w_ hSw; (try dsimp only at hSw); go_simp <;> with_reducible rfl
    simp only [Act.put, List.setIfInBounds_toArray, List.set_cons_zero, List.set_cons_succ]
    refine wpAnyH_take (i := 2) (oi := ⟨some 16, _, _, _, _, _⟩) (v := ?_) rfl (by kernel_rfl) (by kernel_rfl) (by kernel_rfl) (fun _ _ _ h => h) (Or.inl ⟨by rfl, ?_⟩) (by assumption) ?_
    rotate_left
    · intro w_ hSw; (try dsimp only at hSw); obtain ⟨r, e1, e2, e3, hS⟩ := hSw; have hx2 := hS.cell 2; simp only [prA, e1] at hx2; have hx3 := hS.cell 3; simp only [prA, e1] at hx3; have hx4 := hS.cell 4; simp only [prA, e1] at hx4; have hx5 := hS.cell 5; simp only [prA, e1] at hx5; go_simp <;> with_reducible rfl
    simp only [Act.put, List.setIfInBounds_toArray, List.set_cons_zero, List.set_cons_succ]
    refine wpAnyH_take (i := 3) (oi := ⟨some 17, _, _, _, _, _⟩) (v := ?_) rfl (by kernel_rfl) (by kernel_rfl) (by kernel_rfl) (fun _ _ _ h => h) (Or.inl ⟨by rfl, ?_⟩) (by assumption) ?_
    rotate_left
    · intro w_ hSw; (try dsimp only at hSw); go_simp <;> with_reducible rfl
    simp only [Act.put, List.setIfInBounds_toArray, List.set_cons_zero, List.set_cons_succ]
    refine wpAnyH_take (i := 4) (oi := ⟨some 18, _, _, _, _, _⟩) (v := ?_) rfl (by kernel_rfl) (by kernel_rfl) (by kernel_rfl) (fun _ _ _ h => h) (Or.inl ⟨by rfl, ?_⟩) (by assumption) ?_
    rotate_left
    · intro w_ hSw; (try dsimp only at hSw); obtain ⟨r, e1, e2, e3, hS⟩ := hSw; have hx14 := hS.cell 14; simp only [prA, e2] at hx14; go_simp <;> with_reducible rfl
    simp only [Act.put, List.setIfInBounds_toArray, List.set_cons_zero, List.set_cons_succ]
    refine wpAnyH_take (i := 5) (oi := ⟨some 19, _, _, _, _, _⟩) (v := ?_) rfl (by kernel_rfl) (by kernel_rfl) (by kernel_rfl) (fun _ _ _ h => h) (Or.inl ⟨by rfl, ?_⟩) (by assumption) ?_
    rotate_left
    · intro w_ hSw; (try dsimp only at hSw); go_simp <;> with_reducible rfl
    simp only [Act.put, List.setIfInBounds_toArray, List.set_cons_zero, List.set_cons_succ]
    refine wpAnyH_take (i := 6) (oi := ⟨some 20, _, _, _, _, _⟩) (v := ?_) rfl (by kernel_rfl) (by kernel_rfl) (by kernel_rfl) (fun _ _ _ h => h) (Or.inl ⟨by rfl, ?_⟩) (by assumption) ?_
    rotate_left
    · intro w_ hSw; (try dsimp only at hSw); obtain ⟨r, e1, e2, e3, hS⟩ := hSw; have hx15 := hS.cell 15; simp only [prA, e3] at hx15; go_simp <;> with_reducible rfl
    simp only [Act.put, List.setIfInBounds_toArray, List.set_cons_zero, List.set_cons_succ]
    have hp0 := HP1.out.draw
    have hz0 := HZ1.out.draw
    have hb0 := below_dr HBW.out
    refine wpAnyH_ready (rs := [0, 7]) (by kernel_rfl) (by simp) ?_
    refine AllReadyH.cons (o := ⟨some 14, _, _, _, _, _⟩) rfl (fun K hK => ?_) ?_
    · rw [if_pos (by rfl)]
      refine wp_load_row 26 _ rfl (w.heap.size) rfl 26 (prA p) (0, 0) _ (hp0).raw Try.underlying26 rfl (by kernel_rfl) ?_
      refine hK.out _ _ ?_ (fun hHeld => ?_)
      · exact ⟨p, rfl, rfl, rfl, hp0⟩
      clear hK K
      try simp only [Act.put, List.setIfInBounds_toArray, List.set_cons_zero, List.set_cons_succ]
      refine wpAnyH_ready (rs := [7]) (by kernel_rfl) (by simp) ?_
      refine AllReadyH.cons (o := ⟨some 21, _, _, _, _, _⟩) rfl (fun K hK => ?_) ?_
      · go_simp
        refine (HD.out _).mono ?_
        rintro e vm ⟨rfl, hbm⟩
        go_wp2_with fail
        have hp_vm := (hp0).under hbm (hp0).lt
        have hz_vm := (hz0).under hbm (hz0).lt
        have hb_vm := (hb0).trans (hbm.mono (hb0).size)
        refine hK.out _ _ ?_ (fun hHeld => ?_)
        · exact ⟨p, rfl, rfl, rfl, hp_vm⟩
        clear hK K
        try simp only [Act.put, List.setIfInBounds_toArray, List.set_cons_zero, List.set_cons_succ]
        refine wpAnyH_ready (rs := [8]) (by kernel_rfl) (by simp) ?_
        refine AllReadyH.cons (o := ⟨some 22, _, _, _, _, _⟩) rfl (fun K hK => ?_) ?_
        · go_simp
          refine (HW.out _).mono ?_
          rintro e vw ⟨rfl, hbw⟩
          go_wp2_with fail
          have hp_vw := (hp_vm).under hbw (hp_vm).lt
          have hz_vw := (hz_vm).under hbw (hz_vm).lt
          have hb_vw := (hb_vm).trans (hbw.mono (hb_vm).size)
          refine hK.out _ _ ?_ (fun hHeld => ?_)
          · exact ⟨p, rfl, rfl, rfl, hp_vw⟩
          clear hK K
          try simp only [Act.put, List.setIfInBounds_toArray, List.set_cons_zero, List.set_cons_succ]
          refine wpAnyH_ready (rs := [9]) (by kernel_rfl) (by simp) ?_
          refine AllReadyH.cons (o := ⟨none, _, _, _, _, _⟩) rfl (fun K hK => ?_) ?_
          · rw [if_pos (by rfl)]
            refine wp_store_row 26 _ _ rfl (w.heap.size) (prA (shWith p 2 ⟨p.a2, p.b2, dk⟩)) (by rfl) (by rfl) 26 (prA p) (hp_vw).raw (by kernel_rfl) (by kernel_rfl) (by kernel_rfl) ?_
            refine hK.out _ _ ?_ (fun hHeld => ?_)
            · exact ⟨shWith p 2 ⟨p.a2, p.b2, dk⟩, rfl, rfl, rfl, has_setRow7 hp_vw _⟩
            try simp only [Act.put]
            refine wpAnyH_done (by kernel_rfl) ?_ _
            go_wp2_with fail
            go_meet
            exact ⟨has_setRow7 hp_vw _, has_setRow_other7 hz_vw (by omega) _, below_row hb_vw (by omega) _⟩
          exact AllReadyH.nil
        exact AllReadyH.nil
      exact AllReadyH.nil
    refine AllReadyH.cons (o := ⟨some 21, _, _, _, _, _⟩) rfl (fun K hK => ?_) ?_
    · go_simp
      refine (HD.out _).mono ?_
      rintro e vm ⟨rfl, hbm⟩
      go_wp2_with fail
      have hp_vm := (hp0).under hbm (hp0).lt
      have hz_vm := (hz0).under hbm (hz0).lt
      have hb_vm := (hb0).trans (hbm.mono (hb0).size)
      refine hK.out _ _ ?_ (fun hHeld => ?_)
      · exact ⟨p, rfl, rfl, rfl, hp_vm⟩
      clear hK K
      try simp only [Act.put, List.setIfInBounds_toArray, List.set_cons_zero, List.set_cons_succ]
      refine wpAnyH_ready (rs := [0]) (by kernel_rfl) (by simp) ?_
      refine AllReadyH.cons (o := ⟨some 14, _, _, _, _, _⟩) rfl (fun K hK => ?_) ?_
      · rw [if_pos (by rfl)]
        refine wp_load_row 26 _ rfl (w.heap.size) rfl 26 (prA p) (0, 0) _ (hp_vm).raw Try.underlying26 rfl (by kernel_rfl) ?_
        refine hK.out _ _ ?_ (fun hHeld => ?_)
        · exact ⟨p, rfl, rfl, rfl, hp_vm⟩
        clear hK K
        try simp only [Act.put, List.setIfInBounds_toArray, List.set_cons_zero, List.set_cons_succ]
        refine wpAnyH_ready (rs := [8]) (by kernel_rfl) (by simp) ?_
        refine AllReadyH.cons (o := ⟨some 22, _, _, _, _, _⟩) rfl (fun K hK => ?_) ?_
        · go_simp
          refine (HW.out _).mono ?_
          rintro e vw ⟨rfl, hbw⟩
          go_wp2_with fail
          have hp_vw := (hp_vm).under hbw (hp_vm).lt
          have hz_vw := (hz_vm).under hbw (hz_vm).lt
          have hb_vw := (hb_vm).trans (hbw.mono (hb_vm).size)
          refine hK.out _ _ ?_ (fun hHeld => ?_)
          · exact ⟨p, rfl, rfl, rfl, hp_vw⟩
          clear hK K
          try simp only [Act.put, List.setIfInBounds_toArray, List.set_cons_zero, List.set_cons_succ]
          refine wpAnyH_ready (rs := [9]) (by kernel_rfl) (by simp) ?_
          refine AllReadyH.cons (o := ⟨none, _, _, _, _, _⟩) rfl (fun K hK => ?_) ?_
          · rw [if_pos (by rfl)]
            refine wp_store_row 26 _ _ rfl (w.heap.size) (prA (shWith p 2 ⟨p.a2, p.b2, dk⟩)) (by rfl) (by rfl) 26 (prA p) (hp_vw).raw (by kernel_rfl) (by kernel_rfl) (by kernel_rfl) ?_
            refine hK.out _ _ ?_ (fun hHeld => ?_)
            · exact ⟨shWith p 2 ⟨p.a2, p.b2, dk⟩, rfl, rfl, rfl, has_setRow7 hp_vw _⟩
            try simp only [Act.put]
            refine wpAnyH_done (by kernel_rfl) ?_ _
            go_wp2_with fail
            go_meet
            exact ⟨has_setRow7 hp_vw _, has_setRow_other7 hz_vw (by omega) _, below_row hb_vw (by omega) _⟩
          exact AllReadyH.nil
        exact AllReadyH.nil
      exact AllReadyH.nil
    exact AllReadyH.nil
  case rest =>
    obtain ⟨hp, hz, hb⟩ := hcut
    clear HP1 HZ1 HBW HD HW
    have c13 : wc.cell? ⟨w.heap.size, 13, none⟩ = some (.bool p.half) := (hp).cell 13
    have c14 : wc.cell? ⟨w.heap.size, 14, none⟩ = some (.int .u32 (p.a2 : Nat)) := (hp).cell 14
    have c15 : wc.cell? ⟨w.heap.size, 15, none⟩ = some (.int .u32 (p.b2 : Nat)) := (hp).cell 15
    have f13 : wc.frozen? ⟨w.heap.size, 13, none⟩ = false := (hp).thaw 13
    have f14 : wc.frozen? ⟨w.heap.size, 14, none⟩ = false := (hp).thaw 14
    have f15 : wc.frozen? ⟨w.heap.size, 15, none⟩ = false := (hp).thaw 15
    obtain ⟨wd, hwd⟩ : ∃ wd, ((wc.setCell ⟨w.heap.size, 13, none⟩ (.bool false)).setCell ⟨w.heap.size, 14, none⟩ (.int .u32 0)).setCell ⟨w.heap.size, 15, none⟩ (.int .u32 0) = wd := ⟨_, rfl⟩
    have hp1 : Has wd (w.heap.size) 26 (prA { shWith p 2 ⟨p.a2, p.b2, dk⟩ with half := false, a2 := 0, b2 := 0 }) := by rw [← hwd]; exact (((hp.stored 13 _).stored 14 _).stored 15 _).is (by kernel_rfl)
    have hz1 : Has wd (w.heap.size + 1 + 1) 26 #[.int .i64 0, .int .i64 0, .int .u32 0, .int .u32 0, .int .u32 0, .int .u32 0, .int .i64 0, .int .u32 0, .int .u32 0, .int .u32 0, .int .u32 0, .int .u32 0, .int .u32 0, .bool false, .int .u32 0, .int .u32 0] := by rw [← hwd]; exact (((hz.apart (p := ⟨w.heap.size, 13, none⟩) (by show _ ≠ w.heap.size; omega) _).apart (p := ⟨w.heap.size, 14, none⟩) (by show _ ≠ w.heap.size; omega) _).apart (p := ⟨w.heap.size, 15, none⟩) (by show _ ≠ w.heap.size; omega) _)
    have hb1 : Below w.heap.size w wd := by rw [← hwd]; exact (((hb.setCell (p := ⟨w.heap.size, 13, none⟩) (by show w.heap.size ≤ w.heap.size; omega) _).setCell (p := ⟨w.heap.size, 14, none⟩) (by show w.heap.size ≤ w.heap.size; omega) _).setCell (p := ⟨w.heap.size, 15, none⟩) (by show w.heap.size ≤ w.heap.size; omega) _)
    have HWD := Lib.hid hwd
    clear hwd
    have HP1 := Lib.hid hp1; have HZ1 := Lib.hid hz1
    have HR := Lib.hid (has_setRow7 hz1 (prA { shWith p 2 ⟨p.a2, p.b2, dk⟩ with half := false, a2 := 0, b2 := 0 }))
    have HBF := Lib.hid (below_row (g := w.heap.size + 1 + 1) hb1 (by omega) (prA { shWith p 2 ⟨p.a2, p.b2, dk⟩ with half := false, a2 := 0, b2 := 0 }))
    clear hp hz hb hp1 hz1 hb1
    go_upto_region 6 with fail
    rw [HWD.out]
    clear HWD c13 c14 c15 f13 f14 f15
    go_wp2_with (first | (with_reducible refine wpList_load_row (o := ⟨some 26, _, _, _, _, _⟩) rfl 26 _ rfl (w.heap.size) rfl 26 (prA { shWith p 2 ⟨p.a2, p.b2, dk⟩ with half := false, a2 := 0, b2 := 0 }) (0, 0) _ (HP1.out).raw Try.underlying26 rfl (by kernel_rfl) ?_) | (with_reducible refine wpList_store_rowTo (o := ⟨none, _, _, _, _, _⟩) rfl 26 _ _ rfl rfl (w.heap.size + 1 + 1) (prA { shWith p 2 ⟨p.a2, p.b2, dk⟩ with half := false, a2 := 0, b2 := 0 }) rfl rfl 26 _ (HZ1.out).raw (by kernel_rfl) (by kernel_rfl) (by kernel_rfl) ?_))
    refine bodyPost_ret (results_row_tmp9 rfl _ _ (w.heap.size + 1 + 1) 26 _ _ rfl HR.out Try.underlying26 rfl (by kernel_rfl)) rfl ?_
    exact ⟨rfl, HBF.out⟩
end Go.Proofs.Ytekcnmimfhiblaa
