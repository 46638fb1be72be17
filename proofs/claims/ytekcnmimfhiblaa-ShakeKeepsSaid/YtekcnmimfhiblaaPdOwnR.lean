/-
  package pdu as landed: code, Right.
-/
import Derived.Test.YtekcnmimfhiblaaMgD
import Derived.Test.YtekcnmimfhiblaaMgB
namespace Go.Proofs.Ytekcnmimfhiblaa
open Go.RowKit
open Go.Great

set_option maxRecDepth 100000 in
set_option maxHeartbeats 4000000 in
theorem opd_code (k : Key4) (hkk : k.ok) (p : Pdu) (A : Option Addr) (c : Nat) (hk : p.ok) (hn : p.body.length ≤ 2000) (w : World) (hs : Sl w 1 A p.body.length c (u8s p.body)) :
    Calls Try.prog 51 #[keyV k, pdV p A c] w fun e w' => e = .returned (.int .u64 (macF k (pdText p) : Nat)) ∧ Below w.heap.size w w' := by
  obtain ⟨wa, hwa, hba, hka, hpa⟩ := pd_boxK k p A c w
  have HT := Lib.hid (fun W (hW : Below wa.heap.size wa W) => opd_textU wa p A c hk hn W (Sl.under hs (hba.trans (hW.mono hba.size))) hW)
  have HMC := Lib.hid (fun A c xs W (hW : Below wa.heap.size wa W) ha hb hn => (omc_mac k hkk A c xs W ha hb hn).mono fun e w' h => And.intro h.1 (hW.trans (h.2.mono hW.size)))
  have H8 := Lib.hid (text_8 (p := p) hk.2.2.1)
  have hl := pdText_le p
  have HWA := Lib.hid hwa; have HBA := Lib.hid hba
  have HK := Lib.hid (fun W (hW : Below wa.heap.size wa W) => key_cells (k := k) (hka.under hW hka.lt))
  have HP := Lib.hid (fun W (hW : Below wa.heap.size wa W) => has_seven (hpa.under hW hpa.lt))
  obtain ⟨c0, c1, c2, c3, c4, c5, c6⟩ := has_seven hpa
  obtain ⟨k0, k1, k2, k3⟩ := key_cells (k := k) hka
  have hbd : Below wa.heap.size wa wa := Below.refl _ _
  have hbd2 : Below wa.heap.size wa wa.drew := below_dr hbd
  clear hwa hba hka hpa hk hs
  unfold keyV keyA pdV pdA at *
  go_enter Try.func51, Try.ntmps51
  go_upto_region 1 with fail
  rw [HWA.out]
  clear HWA
  go_region_held3 (fun W => (W.cell? ⟨w.heap.size, 0, none⟩ = some (.int .u32 (k.a : Nat)) ∧ W.cell? ⟨w.heap.size, 1, none⟩ = some (.int .u32 (k.b : Nat)) ∧ W.cell? ⟨w.heap.size, 2, none⟩ = some (.int .u32 (k.c : Nat)) ∧ W.cell? ⟨w.heap.size, 3, none⟩ = some (.int .u32 (k.d : Nat))) ∧ W.cell? ⟨w.heap.size + 1, 0, none⟩ = some (.int .i64 p.kind) ∧ W.cell? ⟨w.heap.size + 1, 1, none⟩ = some (.int .i64 p.dir) ∧ W.cell? ⟨w.heap.size + 1, 2, none⟩ = some (.int .i64 p.train) ∧ W.cell? ⟨w.heap.size + 1, 3, none⟩ = some (.int .u32 (p.a : Nat)) ∧ W.cell? ⟨w.heap.size + 1, 4, none⟩ = some (.int .u32 (p.b : Nat)) ∧ W.cell? ⟨w.heap.size + 1, 5, none⟩ = some (.slice A p.body.length c) ∧ W.cell? ⟨w.heap.size + 1, 6, none⟩ = some (.int .u64 (p.mac : Nat)))
    (first | exact ⟨HK.out _ (by assumption), HP.out _ (by assumption)⟩ | go_keep) (first
    | (go_at_call 58; (with_reducible refine (HT.out _ (by assumption)).mono ?_); rintro e wT ⟨A2, c2, rfl, hoT, hbT, hcT⟩)
    | (go_at_call 62; (with_reducible refine (HMC.out _ _ _ _ hcT (at8_own hoT.out) H8.out (by omega)).mono ?_); rintro e w3 ⟨rfl, hb3⟩))
  all_goals
    have HBF := Lib.hid (HBA.out.trans (hb3.mono HBA.out.size))
    go_wp2
    go_ret
    exact ⟨rfl, HBF.out⟩

set_option maxRecDepth 100000 in
set_option maxHeartbeats 4000000 in
theorem opd_right (k : Key4) (hkk : k.ok) (p : Pdu) (A : Option Addr) (c : Nat) (hk : p.ok) (hn : p.body.length ≤ 2000) (w : World) (hs : Sl w 1 A p.body.length c (u8s p.body)) :
    Calls Try.prog 55 #[keyV k, pdV p A c] w fun e w' => e = .returned (.bool (decide (pdRight k p))) ∧ Below w.heap.size w w' := by
  obtain ⟨wa, hwa, hba, hka, hpa⟩ := pd_boxK k p A c w
  have HMAY := Lib.hid (fun W (hW : Below wa.heap.size wa W) => (opd_may p A c hk hn W).mono fun e w' h => And.intro h.1 (hW.trans (h.2.mono hW.size)))
  have HC := Lib.hid (fun W (hW : Below wa.heap.size wa W) => (opd_code k hkk p A c hk hn W (Sl.under hs (hba.trans (hW.mono hba.size)))).mono fun e w' h => And.intro h.1 (hW.trans (h.2.mono hW.size)))
  have HH := Lib.hid (fun W => opd_has p.kind W)
  have HWA := Lib.hid hwa; have HBA := Lib.hid hba
  have HK := Lib.hid (fun W (hW : Below wa.heap.size wa W) => key_cells (k := k) (hka.under hW hka.lt))
  have HP := Lib.hid (fun W (hW : Below wa.heap.size wa W) => has_seven (hpa.under hW hpa.lt))
  obtain ⟨c0, c1, c2, c3, c4, c5, c6⟩ := has_seven hpa
  obtain ⟨k0, k1, k2, k3⟩ := key_cells (k := k) hka
  have hbd : Below wa.heap.size wa wa := Below.refl _ _
  have hbd2 : Below wa.heap.size wa wa.drew := below_dr hbd
  have hR : decide (pdRight k p) = (decide (pdMay p) && (decide (p.kind ≠ 1) && ((p.mac : Int) == (macF k (pdText p) : Int)))) := by
    rw [nat_beq]
    by_cases h1 : pdMay p
    · by_cases h2 : p.kind = 1
      · rw [decide_eq_false (fun h : pdRight k p => by have := h.2.1; omega)]; simp [h2]
      · have h3 : 1 < p.kind := by have := h1.2.2; unfold pdForm at this; omega
        rw [decide_eq_true h1, decide_eq_true h2, Bool.eq_iff_iff]
        simp [pdRight, h1, h3]
    · rw [decide_eq_false (fun h : pdRight k p => h1 h.1), decide_eq_false h1]; rfl
  rw [hR]
  clear hwa hba hka hpa hk hs hR
  generalize decide (pdMay p) = b1 at *
  generalize decide (p.kind ≠ 1) = b2 at *
  obtain ⟨b3, hb3⟩ : ∃ b, ((p.mac : Int) == (macF k (pdText p) : Int)) = b := ⟨_, rfl⟩
  rw [hb3]
  unfold keyV keyA pdV pdA at *
  rcases b1 with _ | _
  · clear HC HH
    go_enter Try.func55, Try.ntmps55
    go_upto_region 1 with fail
    rw [HWA.out]
    clear HWA
    refine wp_region_held_drew (S := (fun W => (W.cell? ⟨w.heap.size, 0, none⟩ = some (.int .u32 (k.a : Nat)) ∧ W.cell? ⟨w.heap.size, 1, none⟩ = some (.int .u32 (k.b : Nat)) ∧ W.cell? ⟨w.heap.size, 2, none⟩ = some (.int .u32 (k.c : Nat)) ∧ W.cell? ⟨w.heap.size, 3, none⟩ = some (.int .u32 (k.d : Nat))) ∧ W.cell? ⟨w.heap.size + 1, 0, none⟩ = some (.int .i64 p.kind) ∧ W.cell? ⟨w.heap.size + 1, 1, none⟩ = some (.int .i64 p.dir) ∧ W.cell? ⟨w.heap.size + 1, 2, none⟩ = some (.int .i64 p.train) ∧ W.cell? ⟨w.heap.size + 1, 3, none⟩ = some (.int .u32 (p.a : Nat)) ∧ W.cell? ⟨w.heap.size + 1, 4, none⟩ = some (.int .u32 (p.b : Nat)) ∧ W.cell? ⟨w.heap.size + 1, 5, none⟩ = some (.slice A p.body.length c) ∧ W.cell? ⟨w.heap.size + 1, 6, none⟩ = some (.int .u64 (p.mac : Nat)))) (by kernel_rfl) ?_ (fun hHeld => ?_)
    · exact ⟨HK.out _ hbd2, HP.out _ hbd2⟩
    refine wpAnyH_take (i := 0) (oi := ⟨some 5, _, _, _, _, _⟩) (v := ?_) rfl (by kernel_rfl) (by kernel_rfl) (by kernel_rfl) (fun _ _ _ h => h) (Or.inl ⟨by rfl, ?_⟩) (by assumption) ?_
    rotate_left
    · intro w_ hSw; (try dsimp only at hSw); obtain ⟨⟨g0, g1, g2, g3⟩, h0, h1, h2, h3, h4, h5, h6⟩ := hSw; go_simp <;> with_reducible rfl
    simp only [Act.put, List.setIfInBounds_toArray, List.set_cons_zero, List.set_cons_succ]
    refine wpAnyH_ready (rs := [1]) (by kernel_rfl) (by simp) ?_
    refine AllReadyH.cons (o := ⟨some 6, _, _, _, _, _⟩) rfl (fun K hK => ?_) ?_
    · go_simp
      refine (HMAY.out _ hbd2).mono ?_
      rintro e w1 ⟨rfl, hc1⟩
      go_wp2_with fail
      refine hK.out _ _ ?_ (fun hHeld => ?_)
      · exact ⟨HK.out _ hc1, HP.out _ hc1⟩
      clear hK K
      try simp only [Act.put, List.setIfInBounds_toArray, List.set_cons_zero, List.set_cons_succ]
      refine wpAnyH_take (i := 2) (oi := ⟨some 7, _, _, _, _, _⟩) (v := ?_) rfl (by kernel_rfl) (by kernel_rfl) (by kernel_rfl) (fun _ _ _ h => h) (Or.inl ⟨by rfl, ?_⟩) (by assumption) ?_
      rotate_left
      · intro w_ hSw; (try dsimp only at hSw); obtain ⟨⟨g0, g1, g2, g3⟩, h0, h1, h2, h3, h4, h5, h6⟩ := hSw; go_simp <;> with_reducible rfl
      simp only [Act.put, List.setIfInBounds_toArray, List.set_cons_zero, List.set_cons_succ]
      refine wpAnyH_take (i := 3) (oi := ⟨some 8, _, _, _, _, _⟩) (v := undef) rfl (by kernel_rfl) (by kernel_rfl) (by kernel_rfl) (fun _ _ _ h => h) (Or.inr ⟨by rfl, rfl⟩) (by assumption) ?_
      simp only [Act.put, List.setIfInBounds_toArray, List.set_cons_zero, List.set_cons_succ]
      refine wpAnyH_take (i := 4) (oi := ⟨some 9, _, _, _, _, _⟩) (v := undef) rfl (by kernel_rfl) (by kernel_rfl) (by kernel_rfl) (fun _ _ _ h => h) (Or.inr ⟨by rfl, rfl⟩) (by assumption) ?_
      simp only [Act.put, List.setIfInBounds_toArray, List.set_cons_zero, List.set_cons_succ]
      refine wpAnyH_take (i := 5) (oi := ⟨some 10, _, _, _, _, _⟩) (v := undef) rfl (by kernel_rfl) (by kernel_rfl) (by kernel_rfl) (fun _ _ _ h => h) (Or.inr ⟨by rfl, rfl⟩) (by assumption) ?_
      simp only [Act.put, List.setIfInBounds_toArray, List.set_cons_zero, List.set_cons_succ]
      refine wpAnyH_take (i := 6) (oi := ⟨some 11, _, _, _, _, _⟩) (v := ?_) rfl (by kernel_rfl) (by kernel_rfl) (by kernel_rfl) (fun _ _ _ h => h) (Or.inl ⟨by rfl, ?_⟩) (by assumption) ?_
      rotate_left
      · intro w_ hSw; (try dsimp only at hSw); obtain ⟨⟨g0, g1, g2, g3⟩, h0, h1, h2, h3, h4, h5, h6⟩ := hSw; go_simp <;> with_reducible rfl
      simp only [Act.put, List.setIfInBounds_toArray, List.set_cons_zero, List.set_cons_succ]
      refine wpAnyH_take (i := 7) (oi := ⟨some 12, _, _, _, _, _⟩) (v := ?_) rfl (by kernel_rfl) (by kernel_rfl) (by kernel_rfl) (fun _ _ _ h => h) (Or.inl ⟨by rfl, ?_⟩) (by assumption) ?_
      rotate_left
      · intro w_ hSw; (try dsimp only at hSw); obtain ⟨⟨g0, g1, g2, g3⟩, h0, h1, h2, h3, h4, h5, h6⟩ := hSw; go_simp <;> with_reducible rfl
      simp only [Act.put, List.setIfInBounds_toArray, List.set_cons_zero, List.set_cons_succ]
      refine wpAnyH_take (i := 8) (oi := ⟨some 13, _, _, _, _, _⟩) (v := undef) rfl (by kernel_rfl) (by kernel_rfl) (by kernel_rfl) (fun _ _ _ h => h) (Or.inr ⟨by rfl, rfl⟩) (by assumption) ?_
      simp only [Act.put, List.setIfInBounds_toArray, List.set_cons_zero, List.set_cons_succ]
      refine wpAnyH_take (i := 9) (oi := ⟨some 14, _, _, _, _, _⟩) (v := undef) rfl (by kernel_rfl) (by kernel_rfl) (by kernel_rfl) (fun _ _ _ h => h) (Or.inr ⟨by rfl, rfl⟩) (by assumption) ?_
      simp only [Act.put, List.setIfInBounds_toArray, List.set_cons_zero, List.set_cons_succ]
      refine wpAnyH_take (i := 10) (oi := ⟨some 15, _, _, _, _, _⟩) (v := undef) rfl (by kernel_rfl) (by kernel_rfl) (by kernel_rfl) (fun _ _ _ h => h) (Or.inr ⟨by rfl, rfl⟩) (by assumption) ?_
      simp only [Act.put, List.setIfInBounds_toArray, List.set_cons_zero, List.set_cons_succ]
      refine wpAnyH_take (i := 11) (oi := ⟨some 16, _, _, _, _, _⟩) (v := undef) rfl (by kernel_rfl) (by kernel_rfl) (by kernel_rfl) (fun _ _ _ h => h) (Or.inr ⟨by rfl, rfl⟩) (by assumption) ?_
      simp only [Act.put, List.setIfInBounds_toArray, List.set_cons_zero, List.set_cons_succ]
      refine wpAnyH_take (i := 12) (oi := ⟨some 17, _, _, _, _, _⟩) (v := undef) rfl (by kernel_rfl) (by kernel_rfl) (by kernel_rfl) (fun _ _ _ h => h) (Or.inr ⟨by rfl, rfl⟩) (by assumption) ?_
      simp only [Act.put, List.setIfInBounds_toArray, List.set_cons_zero, List.set_cons_succ]
      refine wpAnyH_take (i := 13) (oi := ⟨some 18, _, _, _, _, _⟩) (v := undef) rfl (by kernel_rfl) (by kernel_rfl) (by kernel_rfl) (fun _ _ _ h => h) (Or.inr ⟨by rfl, rfl⟩) (by assumption) ?_
      simp only [Act.put, List.setIfInBounds_toArray, List.set_cons_zero, List.set_cons_succ]
      refine wpAnyH_take (i := 14) (oi := ⟨some 19, _, _, _, _, _⟩) (v := ?_) rfl (by kernel_rfl) (by kernel_rfl) (by kernel_rfl) (fun _ _ _ h => h) (Or.inl ⟨by rfl, ?_⟩) (by assumption) ?_
      rotate_left
      · intro w_ hSw; (try dsimp only at hSw); obtain ⟨⟨g0, g1, g2, g3⟩, h0, h1, h2, h3, h4, h5, h6⟩ := hSw; go_simp <;> with_reducible rfl
      simp only [Act.put, List.setIfInBounds_toArray, List.set_cons_zero, List.set_cons_succ]
      refine wpAnyH_take (i := 15) (oi := ⟨some 4, _, _, _, _, _⟩) (v := ?_) rfl (by kernel_rfl) (by kernel_rfl) (by kernel_rfl) (fun _ _ _ h => h) (Or.inl ⟨by rfl, ?_⟩) (by assumption) ?_
      rotate_left
      · intro w_ hSw; (try dsimp only at hSw); obtain ⟨⟨g0, g1, g2, g3⟩, h0, h1, h2, h3, h4, h5, h6⟩ := hSw; go_simp <;> with_reducible rfl
      simp only [Act.put, List.setIfInBounds_toArray, List.set_cons_zero, List.set_cons_succ]
      refine wpAnyH_done (by kernel_rfl) ?_ _
      have HBF := Lib.hid (HBA.out.trans (hc1.mono HBA.out.size))
      go_wp2
      go_ret
      exact ⟨rfl, HBF.out⟩
    exact AllReadyH.nil
  · rcases b2 with _ | _
    · clear HC
      go_enter Try.func55, Try.ntmps55
      go_upto_region 1 with fail
      rw [HWA.out]
      clear HWA
      refine wp_region_held_drew (S := (fun W => (W.cell? ⟨w.heap.size, 0, none⟩ = some (.int .u32 (k.a : Nat)) ∧ W.cell? ⟨w.heap.size, 1, none⟩ = some (.int .u32 (k.b : Nat)) ∧ W.cell? ⟨w.heap.size, 2, none⟩ = some (.int .u32 (k.c : Nat)) ∧ W.cell? ⟨w.heap.size, 3, none⟩ = some (.int .u32 (k.d : Nat))) ∧ W.cell? ⟨w.heap.size + 1, 0, none⟩ = some (.int .i64 p.kind) ∧ W.cell? ⟨w.heap.size + 1, 1, none⟩ = some (.int .i64 p.dir) ∧ W.cell? ⟨w.heap.size + 1, 2, none⟩ = some (.int .i64 p.train) ∧ W.cell? ⟨w.heap.size + 1, 3, none⟩ = some (.int .u32 (p.a : Nat)) ∧ W.cell? ⟨w.heap.size + 1, 4, none⟩ = some (.int .u32 (p.b : Nat)) ∧ W.cell? ⟨w.heap.size + 1, 5, none⟩ = some (.slice A p.body.length c) ∧ W.cell? ⟨w.heap.size + 1, 6, none⟩ = some (.int .u64 (p.mac : Nat)))) (by kernel_rfl) ?_ (fun hHeld => ?_)
      · exact ⟨HK.out _ hbd2, HP.out _ hbd2⟩
      refine wpAnyH_take (i := 0) (oi := ⟨some 5, _, _, _, _, _⟩) (v := ?_) rfl (by kernel_rfl) (by kernel_rfl) (by kernel_rfl) (fun _ _ _ h => h) (Or.inl ⟨by rfl, ?_⟩) (by assumption) ?_
      rotate_left
      · intro w_ hSw; (try dsimp only at hSw); obtain ⟨⟨g0, g1, g2, g3⟩, h0, h1, h2, h3, h4, h5, h6⟩ := hSw; go_simp <;> with_reducible rfl
      simp only [Act.put, List.setIfInBounds_toArray, List.set_cons_zero, List.set_cons_succ]
      refine wpAnyH_ready (rs := [1]) (by kernel_rfl) (by simp) ?_
      refine AllReadyH.cons (o := ⟨some 6, _, _, _, _, _⟩) rfl (fun K hK => ?_) ?_
      · go_simp
        refine (HMAY.out _ hbd2).mono ?_
        rintro e w1 ⟨rfl, hc1⟩
        go_wp2_with fail
        refine hK.out _ _ ?_ (fun hHeld => ?_)
        · exact ⟨HK.out _ hc1, HP.out _ hc1⟩
        clear hK K
        try simp only [Act.put, List.setIfInBounds_toArray, List.set_cons_zero, List.set_cons_succ]
        refine wpAnyH_take (i := 2) (oi := ⟨some 7, _, _, _, _, _⟩) (v := ?_) rfl (by kernel_rfl) (by kernel_rfl) (by kernel_rfl) (fun _ _ _ h => h) (Or.inl ⟨by rfl, ?_⟩) (by assumption) ?_
        rotate_left
        · intro w_ hSw; (try dsimp only at hSw); obtain ⟨⟨g0, g1, g2, g3⟩, h0, h1, h2, h3, h4, h5, h6⟩ := hSw; go_simp <;> with_reducible rfl
        simp only [Act.put, List.setIfInBounds_toArray, List.set_cons_zero, List.set_cons_succ]
        refine wpAnyH_take (i := 3) (oi := ⟨some 8, _, _, _, _, _⟩) (v := ?_) rfl (by kernel_rfl) (by kernel_rfl) (by kernel_rfl) (fun _ _ _ h => h) (Or.inl ⟨by rfl, ?_⟩) (by assumption) ?_
        rotate_left
        · intro w_ hSw; (try dsimp only at hSw); obtain ⟨⟨g0, g1, g2, g3⟩, h0, h1, h2, h3, h4, h5, h6⟩ := hSw; go_simp <;> with_reducible rfl
        simp only [Act.put, List.setIfInBounds_toArray, List.set_cons_zero, List.set_cons_succ]
        refine wpAnyH_take (i := 4) (oi := ⟨some 9, _, _, _, _, _⟩) (v := ?_) rfl (by kernel_rfl) (by kernel_rfl) (by kernel_rfl) (fun _ _ _ h => h) (Or.inl ⟨by rfl, ?_⟩) (by assumption) ?_
        rotate_left
        · intro w_ hSw; (try dsimp only at hSw); obtain ⟨⟨g0, g1, g2, g3⟩, h0, h1, h2, h3, h4, h5, h6⟩ := hSw; go_simp <;> with_reducible rfl
        simp only [Act.put, List.setIfInBounds_toArray, List.set_cons_zero, List.set_cons_succ]
        refine wpAnyH_ready (rs := [5]) (by kernel_rfl) (by simp) ?_
        refine AllReadyH.cons (o := ⟨some 10, _, _, _, _, _⟩) rfl (fun K hK => ?_) ?_
        · go_simp
          refine (HH.out _).mono ?_
          rintro e w2 ⟨rfl, rfl⟩
          go_wp2_with fail
          refine hK.out _ _ ?_ (fun hHeld => ?_)
          · exact hHeld
          clear hK K
          try simp only [Act.put, List.setIfInBounds_toArray, List.set_cons_zero, List.set_cons_succ]
          refine wpAnyH_take (i := 6) (oi := ⟨some 11, _, _, _, _, _⟩) (v := ?_) rfl (by kernel_rfl) (by kernel_rfl) (by kernel_rfl) (fun _ _ _ h => h) (Or.inl ⟨by rfl, ?_⟩) (by assumption) ?_
          rotate_left
          · intro w_ hSw; (try dsimp only at hSw); obtain ⟨⟨g0, g1, g2, g3⟩, h0, h1, h2, h3, h4, h5, h6⟩ := hSw; go_simp <;> with_reducible rfl
          simp only [Act.put, List.setIfInBounds_toArray, List.set_cons_zero, List.set_cons_succ]
          refine wpAnyH_take (i := 7) (oi := ⟨some 12, _, _, _, _, _⟩) (v := ?_) rfl (by kernel_rfl) (by kernel_rfl) (by kernel_rfl) (fun _ _ _ h => h) (Or.inl ⟨by rfl, ?_⟩) (by assumption) ?_
          rotate_left
          · intro w_ hSw; (try dsimp only at hSw); obtain ⟨⟨g0, g1, g2, g3⟩, h0, h1, h2, h3, h4, h5, h6⟩ := hSw; go_simp <;> with_reducible rfl
          simp only [Act.put, List.setIfInBounds_toArray, List.set_cons_zero, List.set_cons_succ]
          refine wpAnyH_take (i := 8) (oi := ⟨some 13, _, _, _, _, _⟩) (v := undef) rfl (by kernel_rfl) (by kernel_rfl) (by kernel_rfl) (fun _ _ _ h => h) (Or.inr ⟨by rfl, rfl⟩) (by assumption) ?_
          simp only [Act.put, List.setIfInBounds_toArray, List.set_cons_zero, List.set_cons_succ]
          refine wpAnyH_take (i := 9) (oi := ⟨some 14, _, _, _, _, _⟩) (v := undef) rfl (by kernel_rfl) (by kernel_rfl) (by kernel_rfl) (fun _ _ _ h => h) (Or.inr ⟨by rfl, rfl⟩) (by assumption) ?_
          simp only [Act.put, List.setIfInBounds_toArray, List.set_cons_zero, List.set_cons_succ]
          refine wpAnyH_take (i := 10) (oi := ⟨some 15, _, _, _, _, _⟩) (v := undef) rfl (by kernel_rfl) (by kernel_rfl) (by kernel_rfl) (fun _ _ _ h => h) (Or.inr ⟨by rfl, rfl⟩) (by assumption) ?_
          simp only [Act.put, List.setIfInBounds_toArray, List.set_cons_zero, List.set_cons_succ]
          refine wpAnyH_take (i := 11) (oi := ⟨some 16, _, _, _, _, _⟩) (v := undef) rfl (by kernel_rfl) (by kernel_rfl) (by kernel_rfl) (fun _ _ _ h => h) (Or.inr ⟨by rfl, rfl⟩) (by assumption) ?_
          simp only [Act.put, List.setIfInBounds_toArray, List.set_cons_zero, List.set_cons_succ]
          refine wpAnyH_take (i := 12) (oi := ⟨some 17, _, _, _, _, _⟩) (v := undef) rfl (by kernel_rfl) (by kernel_rfl) (by kernel_rfl) (fun _ _ _ h => h) (Or.inr ⟨by rfl, rfl⟩) (by assumption) ?_
          simp only [Act.put, List.setIfInBounds_toArray, List.set_cons_zero, List.set_cons_succ]
          refine wpAnyH_take (i := 13) (oi := ⟨some 18, _, _, _, _, _⟩) (v := undef) rfl (by kernel_rfl) (by kernel_rfl) (by kernel_rfl) (fun _ _ _ h => h) (Or.inr ⟨by rfl, rfl⟩) (by assumption) ?_
          simp only [Act.put, List.setIfInBounds_toArray, List.set_cons_zero, List.set_cons_succ]
          refine wpAnyH_take (i := 14) (oi := ⟨some 19, _, _, _, _, _⟩) (v := ?_) rfl (by kernel_rfl) (by kernel_rfl) (by kernel_rfl) (fun _ _ _ h => h) (Or.inl ⟨by rfl, ?_⟩) (by assumption) ?_
          rotate_left
          · intro w_ hSw; (try dsimp only at hSw); obtain ⟨⟨g0, g1, g2, g3⟩, h0, h1, h2, h3, h4, h5, h6⟩ := hSw; go_simp <;> with_reducible rfl
          simp only [Act.put, List.setIfInBounds_toArray, List.set_cons_zero, List.set_cons_succ]
          refine wpAnyH_take (i := 15) (oi := ⟨some 4, _, _, _, _, _⟩) (v := ?_) rfl (by kernel_rfl) (by kernel_rfl) (by kernel_rfl) (fun _ _ _ h => h) (Or.inl ⟨by rfl, ?_⟩) (by assumption) ?_
          rotate_left
          · intro w_ hSw; (try dsimp only at hSw); obtain ⟨⟨g0, g1, g2, g3⟩, h0, h1, h2, h3, h4, h5, h6⟩ := hSw; go_simp <;> with_reducible rfl
          simp only [Act.put, List.setIfInBounds_toArray, List.set_cons_zero, List.set_cons_succ]
          refine wpAnyH_done (by kernel_rfl) ?_ _
          have HBF := Lib.hid (HBA.out.trans (hc1.mono HBA.out.size))
          go_wp2
          go_ret
          exact ⟨rfl, HBF.out⟩
        exact AllReadyH.nil
      exact AllReadyH.nil
    · skip
      go_enter Try.func55, Try.ntmps55
      go_upto_region 1 with fail
      rw [HWA.out]
      clear HWA
      refine wp_region_held_drew (S := (fun W => (W.cell? ⟨w.heap.size, 0, none⟩ = some (.int .u32 (k.a : Nat)) ∧ W.cell? ⟨w.heap.size, 1, none⟩ = some (.int .u32 (k.b : Nat)) ∧ W.cell? ⟨w.heap.size, 2, none⟩ = some (.int .u32 (k.c : Nat)) ∧ W.cell? ⟨w.heap.size, 3, none⟩ = some (.int .u32 (k.d : Nat))) ∧ W.cell? ⟨w.heap.size + 1, 0, none⟩ = some (.int .i64 p.kind) ∧ W.cell? ⟨w.heap.size + 1, 1, none⟩ = some (.int .i64 p.dir) ∧ W.cell? ⟨w.heap.size + 1, 2, none⟩ = some (.int .i64 p.train) ∧ W.cell? ⟨w.heap.size + 1, 3, none⟩ = some (.int .u32 (p.a : Nat)) ∧ W.cell? ⟨w.heap.size + 1, 4, none⟩ = some (.int .u32 (p.b : Nat)) ∧ W.cell? ⟨w.heap.size + 1, 5, none⟩ = some (.slice A p.body.length c) ∧ W.cell? ⟨w.heap.size + 1, 6, none⟩ = some (.int .u64 (p.mac : Nat)))) (by kernel_rfl) ?_ (fun hHeld => ?_)
      · exact ⟨HK.out _ hbd2, HP.out _ hbd2⟩
      refine wpAnyH_take (i := 0) (oi := ⟨some 5, _, _, _, _, _⟩) (v := ?_) rfl (by kernel_rfl) (by kernel_rfl) (by kernel_rfl) (fun _ _ _ h => h) (Or.inl ⟨by rfl, ?_⟩) (by assumption) ?_
      rotate_left
      · intro w_ hSw; (try dsimp only at hSw); obtain ⟨⟨g0, g1, g2, g3⟩, h0, h1, h2, h3, h4, h5, h6⟩ := hSw; go_simp <;> with_reducible rfl
      simp only [Act.put, List.setIfInBounds_toArray, List.set_cons_zero, List.set_cons_succ]
      refine wpAnyH_ready (rs := [1]) (by kernel_rfl) (by simp) ?_
      refine AllReadyH.cons (o := ⟨some 6, _, _, _, _, _⟩) rfl (fun K hK => ?_) ?_
      · go_simp
        refine (HMAY.out _ hbd2).mono ?_
        rintro e w1 ⟨rfl, hc1⟩
        go_wp2_with fail
        refine hK.out _ _ ?_ (fun hHeld => ?_)
        · exact ⟨HK.out _ hc1, HP.out _ hc1⟩
        clear hK K
        try simp only [Act.put, List.setIfInBounds_toArray, List.set_cons_zero, List.set_cons_succ]
        refine wpAnyH_take (i := 2) (oi := ⟨some 7, _, _, _, _, _⟩) (v := ?_) rfl (by kernel_rfl) (by kernel_rfl) (by kernel_rfl) (fun _ _ _ h => h) (Or.inl ⟨by rfl, ?_⟩) (by assumption) ?_
        rotate_left
        · intro w_ hSw; (try dsimp only at hSw); obtain ⟨⟨g0, g1, g2, g3⟩, h0, h1, h2, h3, h4, h5, h6⟩ := hSw; go_simp <;> with_reducible rfl
        simp only [Act.put, List.setIfInBounds_toArray, List.set_cons_zero, List.set_cons_succ]
        refine wpAnyH_take (i := 3) (oi := ⟨some 8, _, _, _, _, _⟩) (v := ?_) rfl (by kernel_rfl) (by kernel_rfl) (by kernel_rfl) (fun _ _ _ h => h) (Or.inl ⟨by rfl, ?_⟩) (by assumption) ?_
        rotate_left
        · intro w_ hSw; (try dsimp only at hSw); obtain ⟨⟨g0, g1, g2, g3⟩, h0, h1, h2, h3, h4, h5, h6⟩ := hSw; go_simp <;> with_reducible rfl
        simp only [Act.put, List.setIfInBounds_toArray, List.set_cons_zero, List.set_cons_succ]
        refine wpAnyH_take (i := 4) (oi := ⟨some 9, _, _, _, _, _⟩) (v := ?_) rfl (by kernel_rfl) (by kernel_rfl) (by kernel_rfl) (fun _ _ _ h => h) (Or.inl ⟨by rfl, ?_⟩) (by assumption) ?_
        rotate_left
        · intro w_ hSw; (try dsimp only at hSw); obtain ⟨⟨g0, g1, g2, g3⟩, h0, h1, h2, h3, h4, h5, h6⟩ := hSw; go_simp <;> with_reducible rfl
        simp only [Act.put, List.setIfInBounds_toArray, List.set_cons_zero, List.set_cons_succ]
        refine wpAnyH_ready (rs := [5]) (by kernel_rfl) (by simp) ?_
        refine AllReadyH.cons (o := ⟨some 10, _, _, _, _, _⟩) rfl (fun K hK => ?_) ?_
        · go_simp
          refine (HH.out _).mono ?_
          rintro e w2 ⟨rfl, rfl⟩
          go_wp2_with fail
          refine hK.out _ _ ?_ (fun hHeld => ?_)
          · exact hHeld
          clear hK K
          try simp only [Act.put, List.setIfInBounds_toArray, List.set_cons_zero, List.set_cons_succ]
          refine wpAnyH_take (i := 6) (oi := ⟨some 11, _, _, _, _, _⟩) (v := ?_) rfl (by kernel_rfl) (by kernel_rfl) (by kernel_rfl) (fun _ _ _ h => h) (Or.inl ⟨by rfl, ?_⟩) (by assumption) ?_
          rotate_left
          · intro w_ hSw; (try dsimp only at hSw); obtain ⟨⟨g0, g1, g2, g3⟩, h0, h1, h2, h3, h4, h5, h6⟩ := hSw; go_simp <;> with_reducible rfl
          simp only [Act.put, List.setIfInBounds_toArray, List.set_cons_zero, List.set_cons_succ]
          refine wpAnyH_take (i := 7) (oi := ⟨some 12, _, _, _, _, _⟩) (v := ?_) rfl (by kernel_rfl) (by kernel_rfl) (by kernel_rfl) (fun _ _ _ h => h) (Or.inl ⟨by rfl, ?_⟩) (by assumption) ?_
          rotate_left
          · intro w_ hSw; (try dsimp only at hSw); obtain ⟨⟨g0, g1, g2, g3⟩, h0, h1, h2, h3, h4, h5, h6⟩ := hSw; go_simp <;> with_reducible rfl
          simp only [Act.put, List.setIfInBounds_toArray, List.set_cons_zero, List.set_cons_succ]
          refine wpAnyH_take (i := 8) (oi := ⟨some 13, _, _, _, _, _⟩) (v := ?_) rfl (by kernel_rfl) (by kernel_rfl) (by kernel_rfl) (fun _ _ _ h => h) (Or.inl ⟨by rfl, ?_⟩) (by assumption) ?_
          rotate_left
          · intro w_ hSw; (try dsimp only at hSw); obtain ⟨⟨g0, g1, g2, g3⟩, h0, h1, h2, h3, h4, h5, h6⟩ := hSw; go_simp <;> with_reducible rfl
          simp only [Act.put, List.setIfInBounds_toArray, List.set_cons_zero, List.set_cons_succ]
          refine wpAnyH_take (i := 9) (oi := ⟨some 14, _, _, _, _, _⟩) (v := ?_) rfl (by kernel_rfl) (by kernel_rfl) (by kernel_rfl) (fun _ _ _ h => h) (Or.inl ⟨by rfl, ?_⟩) (by assumption) ?_
          rotate_left
          · intro w_ hSw; (try dsimp only at hSw); obtain ⟨⟨g0, g1, g2, g3⟩, h0, h1, h2, h3, h4, h5, h6⟩ := hSw; go_simp <;> with_reducible rfl
          simp only [Act.put, List.setIfInBounds_toArray, List.set_cons_zero, List.set_cons_succ]
          refine wpAnyH_take (i := 10) (oi := ⟨some 15, _, _, _, _, _⟩) (v := ?_) rfl (by kernel_rfl) (by kernel_rfl) (by kernel_rfl) (fun _ _ _ h => h) (Or.inl ⟨by rfl, ?_⟩) (by assumption) ?_
          rotate_left
          · intro w_ hSw; (try dsimp only at hSw); obtain ⟨⟨g0, g1, g2, g3⟩, h0, h1, h2, h3, h4, h5, h6⟩ := hSw; go_simp <;> with_reducible rfl
          simp only [Act.put, List.setIfInBounds_toArray, List.set_cons_zero, List.set_cons_succ]
          refine wpAnyH_take (i := 11) (oi := ⟨some 16, _, _, _, _, _⟩) (v := ?_) rfl (by kernel_rfl) (by kernel_rfl) (by kernel_rfl) (fun _ _ _ h => h) (Or.inl ⟨by rfl, ?_⟩) (by assumption) ?_
          rotate_left
          · intro w_ hSw; (try dsimp only at hSw); obtain ⟨⟨g0, g1, g2, g3⟩, h0, h1, h2, h3, h4, h5, h6⟩ := hSw; go_simp <;> with_reducible rfl
          simp only [Act.put, List.setIfInBounds_toArray, List.set_cons_zero, List.set_cons_succ]
          refine wpAnyH_ready (rs := [12]) (by kernel_rfl) (by simp) ?_
          refine AllReadyH.cons (o := ⟨some 17, _, _, _, _, _⟩) rfl (fun K hK => ?_) ?_
          · go_simp
            refine (HC.out _ hc1).mono ?_
            rintro e w3 ⟨rfl, hc3⟩
            go_wp2_with fail
            refine hK.out _ _ ?_ (fun hHeld => ?_)
            · exact ⟨HK.out _ hc3, HP.out _ hc3⟩
            clear hK K
            try simp only [Act.put, List.setIfInBounds_toArray, List.set_cons_zero, List.set_cons_succ]
            refine wpAnyH_take (i := 13) (oi := ⟨some 18, _, _, _, _, _⟩) (v := ?_) rfl (by kernel_rfl) (by kernel_rfl) (by kernel_rfl) (fun _ _ _ h => h) (Or.inl ⟨by rfl, ?_⟩) (by assumption) ?_
            rotate_left
            · intro w_ hSw; (try dsimp only at hSw); obtain ⟨⟨g0, g1, g2, g3⟩, h0, h1, h2, h3, h4, h5, h6⟩ := hSw; go_simp <;> with_reducible rfl
            simp only [Act.put, List.setIfInBounds_toArray, List.set_cons_zero, List.set_cons_succ]
            refine wpAnyH_take (i := 14) (oi := ⟨some 19, _, _, _, _, _⟩) (v := ?_) rfl (by kernel_rfl) (by kernel_rfl) (by kernel_rfl) (fun _ _ _ h => h) (Or.inl ⟨by rfl, ?_⟩) (by assumption) ?_
            rotate_left
            · intro w_ hSw; (try dsimp only at hSw); obtain ⟨⟨g0, g1, g2, g3⟩, h0, h1, h2, h3, h4, h5, h6⟩ := hSw; go_simp <;> with_reducible rfl
            simp only [Act.put, List.setIfInBounds_toArray, List.set_cons_zero, List.set_cons_succ]
            refine wpAnyH_take (i := 15) (oi := ⟨some 4, _, _, _, _, _⟩) (v := ?_) rfl (by kernel_rfl) (by kernel_rfl) (by kernel_rfl) (fun _ _ _ h => h) (Or.inl ⟨by rfl, ?_⟩) (by assumption) ?_
            rotate_left
            · intro w_ hSw; (try dsimp only at hSw); obtain ⟨⟨g0, g1, g2, g3⟩, h0, h1, h2, h3, h4, h5, h6⟩ := hSw; go_simp <;> with_reducible rfl
            simp only [Act.put, List.setIfInBounds_toArray, List.set_cons_zero, List.set_cons_succ]
            refine wpAnyH_done (by kernel_rfl) ?_ _
            have HBF := Lib.hid (HBA.out.trans (hc3.mono HBA.out.size))
            go_wp2
            go_ret
            exact ⟨rfl, HBF.out⟩
          exact AllReadyH.nil
        exact AllReadyH.nil
      exact AllReadyH.nil
end Go.Proofs.Ytekcnmimfhiblaa
