/-
  linesidelaw12.LinkAcked, walked.
-/
import Derived.Test.YtbohoejikihnfaaLawAwake12

import Derived.Test.YtbohoejikihnfaaLkMore

import Derived.BigQuiet

namespace Go.Proofs.Ytbohoejikihnfaa

open Go.RowKit

open Go.Great

theorem may_light {l : L0} (h : mayL l = true) : lightL l = true := by
  unfold mayL at h
  simp only [Bool.and_eq_true, decide_eq_true_eq, List.all_eq_true] at h
  unfold lightL
  simp only [Bool.and_eq_true, decide_eq_true_eq, List.all_eq_true]
  refine ⟨by omega, fun x hx => ?_⟩
  have := h.2.2.1 x hx
  unfold okW okB at this
  simp only [Bool.and_eq_true, decide_eq_true_eq] at this
  omega
theorem may_filter {l : L0} (h : mayL l = true) (F : W0 → Bool) : mayL { l with ws := l.ws.filter F } = true := by
  unfold mayL at h ⊢
  simp only [Bool.and_eq_true, decide_eq_true_eq, List.all_eq_true] at h ⊢
  obtain ⟨h1, h2, h3, h4⟩ := h
  refine ⟨h1, ?_, fun x hx => h3 x (List.mem_filter.1 hx).1, h4.filter F⟩
  have := List.length_filter_le F l.ws
  show (l.ws.filter F).length ≤ 8
  omega
theorem acked_facts {l : L0} (h : mayL l = true) {x : W0} (hx : x ∈ l.ws) : ackedE l x.t = 0 ∧ mayL (ackedL l x.t) = true ∧ (ackedL l x.t).ws.length + 1 ≤ l.ws.length ∧ ∀ y ∈ (ackedL l x.t).ws, y.t ≠ x.t := by
  have hh : hasT l.ws x.t = true := by unfold hasT; rw [List.any_eq_true]; exact ⟨x, hx, by simp⟩
  have e : ackedE l x.t = 0 := by unfold ackedE; rw [h, hh]; rfl
  have e2 : ackedL l x.t = { l with ws := l.ws.filter fun y => y.t != x.t } := by unfold ackedL; rw [e]; rfl
  rw [e2]
  refine ⟨e, may_filter h _, ?_, fun y hy => ?_⟩
  · show (l.ws.filter _).length + 1 ≤ l.ws.length
    exact List.length_filter_lt_length_iff_exists.2 ⟨x, hx, by simp⟩
  · have := (List.mem_filter.1 hy).2
    simpa using this
theorem tick_zero {l : L0} {now : Int} (h : mayL l = true) (hn : isT now = true) : tickE l now = 0 := by unfold tickE; rw [h, hn]; rfl
theorem tick_again {l : L0} {now : Int} : (tickA l now).length ≤ l.ws.length ∧ (tickLost l now = true → (tickA l now).length = 0) := by
  unfold tickA tickLost
  by_cases h : (mayL l && isT now) = true
  · rw [h, if_pos rfl]
    cases lostB l now with
    | true => exact ⟨Nat.zero_le _, fun _ => rfl⟩
    | false =>
      refine ⟨?_, fun h => by cases h⟩
      rw [if_neg (by decide), List.length_map]
      exact List.length_filter_le _ _
  · rw [if_neg h]; exact ⟨Nat.zero_le _, fun _ => rfl⟩
theorem tick_bare {l : L0} {now : Int} (h : mayL l = true) (hn : isT now = true) : tickE { l with ws := [] } now = 0 ∧ (tickA { l with ws := [] } now).length = 0 ∧ tickLost { l with ws := [] } now = decide (l.heard + l.quiet < now) ∧ lightL { l with ws := [] } = true := by
  have hm : mayL { l with ws := [] } = true := by
    unfold mayL at h ⊢
    simp only [Bool.and_eq_true, decide_eq_true_eq] at h ⊢
    exact ⟨h.1, by simp, by simp⟩
  refine ⟨tick_zero hm hn, ?_, ?_, may_light hm⟩
  · have := (tick_again (l := { l with ws := [] }) (now := now)).1
    exact Nat.le_zero.1 this
  · unfold tickLost lostB; rw [hm, hn]; simp

set_option maxRecDepth 100000 in
set_option maxHeartbeats 16000000 in
theorem linkAcked_walk (l : L0) (A : Option Addr) (c : Nat) (now : Int) (w : World) (hw : WsR (fun b => b < w.heap.size) w A l.ws.length c l.ws) (_wn : (Lit.int .i64 now).wf = true) :
    Calls Try.prog 7 #[.agg (lkC l A c), .int .i64 now] w fun e w' => e = .returned (.bool true) ∧ Below w.heap.size w w' := by
  obtain ⟨wa, hwa⟩ : ∃ wa, w.alloc (.cells (lkC l A c) 24) = wa := ⟨_, rfl⟩
  have hbwa : Below w.heap.size w wa := by rw [← hwa]; exact (Below.refl _ _).alloc (Nat.le_refl _) _
  have h0 : Has wa (w.heap.size) 24 (lkC l A c) := by rw [← hwa]; exact (Has.made _ _ _)
  have HWA := Lib.hid hwa; have HBWA := Lib.hid hbwa
  have HB0 : Hid (Has wa (w.heap.size) 24 (lkC l A c) ∧ WsR (fun b => b < w.heap.size) wa A l.ws.length c l.ws ∧ Below w.heap.size w wa) := Lib.hid ⟨h0, hw.under hbwa, hbwa⟩
  have hwz : w.heap.size + 1 ≤ wa.heap.size := by rw [← hwa]; simp
  have HAW := Lib.hid (awake12_any wa)
  clear hwa hbwa h0 hw HBWA
  go_enter Try.func7, Try.ntmps7
  go_upto_region 1 with fail
  rw [HWA.out]
  clear HWA
  obtain ⟨s0, s1, s2⟩ := HB0.out
  have HK := Lib.hid (HAW.out)
  clear s0 s1 s2
  go_wp2_with fail
  refine HK.out.mono ?_
  rintro e v1 ⟨rfl, hb1⟩
  obtain ⟨s0, s1, s2⟩ := HB0.out
  have hbn : Below wa.heap.size wa v1 := hb1
  have HB1 : Hid (Has v1 (w.heap.size) 24 (lkC l A c) ∧ WsR (fun b => b < w.heap.size) v1 A l.ws.length c l.ws ∧ Below w.heap.size w v1) := Lib.hid ⟨s0.under hbn s0.lt, s1.under hbn, s2.trans (hbn.mono s2.size)⟩
  clear s0 s1 s2
  clear HK HB0 HAW hb1
  clear hbn
  obtain ⟨s0, s1, s2⟩ := HB1.out
  have HL0 := Lib.hid s0
  have HK := Lib.hid (llight_any l A c v1 s1)
  clear s0 s1 s2
  go_wp2_with (first | (with_reducible refine wpList_load_row (o := ⟨some 21, _, _, _, _, _⟩) rfl 24 _ rfl (w.heap.size) rfl 24 (lkC l A c) (0, 0) _ (HL0.out).raw11 Try.underlying24 rfl (by kernel_rfl) ?_))
  refine HK.out.mono ?_
  rintro e v2 ⟨rfl, hb1⟩
  obtain ⟨s0, s1, s2⟩ := HB1.out
  have hbn : Below v1.heap.size v1 v2 := hb1
  have HB2 : Hid (Has v2 (w.heap.size) 24 (lkC l A c) ∧ WsR (fun b => b < w.heap.size) v2 A l.ws.length c l.ws ∧ Below w.heap.size w v2) := Lib.hid ⟨s0.under hbn s0.lt, s1.under hbn, s2.trans (hbn.mono s2.size)⟩
  clear s0 s1 s2
  clear HK HB1 HL0 hb1
  clear hbn
  by_cases hL : lightL l = true
  rotate_left
  · rw [Bool.not_eq_true] at hL
    rw [hL]
    have HBF := Lib.hid HB2.out.2.2
    clear HB2 hL
    go_wp2
    go_ret
    exact ⟨rfl, HBF.out⟩
  rw [hL]
  obtain ⟨s0, s1, s2⟩ := HB2.out
  have HL0 := Lib.hid s0
  have HKM := Lib.hid (olk_may l A c v2 s1 hL)
  clear s0 s1 s2
  go_wp2_with ((with_reducible refine at_slot11 30 ?_); refine wpList_load_rowW11 (o := ⟨some 30, _, _, _, _, _⟩) 24 _ rfl (by kernel_rfl) (w.heap.size) rfl 24 (lkC l A c) (0, 0) _ (HL0.out).raw11 Try.underlying24 rfl (by kernel_rfl) ?_)
  refine HKM.out.mono ?_
  rintro e v3 ⟨rfl, hb1⟩
  obtain ⟨s0, s1, s2⟩ := HB2.out
  have HB3 : Hid (Has v3 (w.heap.size) 24 (lkC l A c) ∧ WsR (fun b => b < w.heap.size) v3 A l.ws.length c l.ws ∧ Below w.heap.size w v3) := Lib.hid ⟨s0.under hb1 s0.lt, s1.under hb1, s2.trans (hb1.mono s2.size)⟩
  clear s0 s1 s2
  clear HB2 HL0 HKM hb1
  by_cases hM : mayL l = true
  rotate_left
  · rw [Bool.not_eq_true] at hM
    rw [hM]
    have HBF := Lib.hid HB3.out.2.2
    clear HB3 hL hM
    go_wp2
    go_ret
    exact ⟨rfl, HBF.out⟩
  rw [hM]
  by_cases hN : isT now = true
  rotate_left
  · have hno : now < 0 ∨ (¬ now < 0 ∧ 4294967294 < now) := by have := mt (isT_iff now).2 hN; omega
    have HBF := Lib.hid HB3.out.2.2
    clear HB3 hL hM hN
    rcases hno with x1 | ⟨x1, x2⟩
    all_goals
      go_wp2
      go_ret
      exact ⟨rfl, HBF.out⟩
  have hnb := (isT_iff now).1 hN
  have x1 : ¬ now < 0 := by omega
  have x2 : ¬ 4294967294 < now := by omega
  have hl8 := may_len hM
  obtain ⟨wS, hwS⟩ : ∃ wS, v3 = wS := ⟨_, rfl⟩
  rw [hwS] at HB3 ⊢
  clear hwS
  obtain ⟨s0, s1, s2⟩ := HB3.out
  have HST := Lib.hid (fun W (hW : Below wS.heap.size wS W) => And.intro (s0.under hW s0.lt) (And.intro (s1.under hW) (s2.trans (hW.mono s2.size))))
  have hlw : w.heap.size ≤ wS.heap.size := s2.size
  clear s0 s1 s2
  clear HB3
  have HM := Lib.hid hM; have HNT := Lib.hid hN
  clear hM hN hL
  obtain ⟨n, hn⟩ : ∃ n, l.ws.length = n := ⟨_, rfl⟩
  have HNL := Lib.hid hn
  rw [hn] at hl8
  have m4 : wS.cell? ⟨w.heap.size, 4, none⟩ = some (.slice A n c) := by have h_ := (HST.out wS (Below.refl _ _)).1.cell 4; rw [← hn]; exact h_
  go_upto_region 5 with fail
  clear x1 x2
  go_wp2
  clear m4
  go_loopg [7] n (fun kk v wl => ∃ j : Nat, j ≤ n ∧ n - j ≤ kk ∧ v = .int .i64 j ∧ Below wS.heap.size wS wl)
  case atStart => exact ⟨0, by omega, by omega, rfl, Below.refl _ _⟩
  case round =>
    obtain ⟨j, hj, hjk, rfl, hbl⟩ := hrel
    have HBL := Lib.hid hbl
    have c4 : wr.cell? ⟨w.heap.size, 4, none⟩ = some (.slice A n c) := by have h_ := (HST.out wr hbl).1.cell 4; rw [← HNL.out]; exact h_
    clear hbl
    by_cases hlt : j < n
    rotate_left
    · have xx : ¬ (j : Int) < n := by omega
      obtain ⟨hp, _, hb⟩ := HST.out wr HBL.out
      have HP1 := Lib.hid hp; have HB1 := Lib.hid hb; clear hp hb
      have hbare := tick_bare HM.out HNT.out
      have hmb := tick_bounds (l := l) (now := now) (by rw [HM.out, HNT.out]; rfl)
      have hT := fun W => olk_tick (P := fun _ => True) { l with ws := [] } none 0 now W (WsR.nil W) hbare.2.2.2
      unfold TickPost at hT
      obtain ⟨hb1_, hb2_, hb3_, _⟩ := hbare
      simp only [hb1_, hb2_, hb3_] at hT
      generalize tickL { l with ws := [] } now = r at *
      have HT := Lib.hid hT
      clear hT hb1_ hb2_ hb3_
      go_upto_region 17 with fail
      clear c4 xx
      have hlt2 : w.heap.size < wr.heap.size := HP1.out.lt
      have hmk : Has (wr.alloc (.cells #[.int .i64 0, .int .i64 0, .int .i64 0, .int .i64 0, .slice none 0 0] 24)) wr.heap.size 24 #[.int .i64 0, .int .i64 0, .int .i64 0, .int .i64 0, .slice none 0 0] := Has.made _ _ _
      obtain ⟨w3, hw3⟩ : ∃ w3, (wr.alloc (.cells #[.int .i64 0, .int .i64 0, .int .i64 0, .int .i64 0, .slice none 0 0] 24)).setRow wr.heap.size (lkC l A c) = w3 := ⟨_, rfl⟩
      have ho2 : Has w3 wr.heap.size 24 (lkC l A c) := by rw [← hw3]; exact has_row11 hmk _
      have hbw : Below wr.heap.size wr w3 := by rw [← hw3]; exact below_row (g := wr.heap.size) ((Below.refl _ _).alloc (Nat.le_refl _) _) (Nat.le_refl _) _
      have HSZ_w3 := Lib.hid (show w3.heap.size = wr.heap.size + 1 by rw [← hw3]; simp)
      have HMK := Lib.hid hmk
      have HFR := Lib.hid hw3
      clear hw3 hmk
      go_upto_region 18 with (first | (with_reducible refine wpList_load_row (o := ⟨some 112, _, _, _, _, _⟩) rfl 24 _ rfl (w.heap.size) rfl 24 (lkC l A c) (0, 0) _ (HP1.out).raw11 Try.underlying24 rfl (by kernel_rfl) ?_) | (with_reducible refine wpList_store_rowTo (o := ⟨none, _, _, _, _, _⟩) rfl 24 _ _ rfl rfl (wr.heap.size) (lkC l A c) rfl rfl 24 _ (HMK.out).raw11 (by kernel_rfl) (by kernel_rfl) (by kernel_rfl) ?_))
      rw [HFR.out]
      clear HFR HMK
      have hpb := HP1.out.under hbw HP1.out.lt
      clear hpb
      have b4 : w3.cell? ⟨wr.heap.size, 4, none⟩ = some (.slice A l.ws.length c) := ho2.cell 4
      have z4 := ho2.thaw 4
      obtain ⟨w4, hw4⟩ : ∃ w4, w3.setCell ⟨wr.heap.size, 4, none⟩ (.slice none 0 0) = w4 := ⟨_, rfl⟩
      have ho4 : Has w4 wr.heap.size 24 (lkC { l with ws := [] } none 0) := by rw [← hw4]; exact (ho2.stored 4 _).is11 (by kernel_rfl)
      have hb4 : Below wr.heap.size wr w4 := by rw [← hw4]; exact hbw.setCell (p := ⟨wr.heap.size, 4, none⟩) (Nat.le_refl _) _
      have HW4 := Lib.hid hw4; have HO4 := Lib.hid ho4
      have HB4 := Lib.hid (HB1.out.trans (hb4.mono HB1.out.size)); have HP4 := Lib.hid (HP1.out.under hb4 HP1.out.lt)
      clear hw4 ho4 hb4 ho2 hbw HSZ_w3 HP1 HB1
      go_upto_region 19 with fail
      rw [HW4.out]
      clear HW4 b4 z4
      have HK := Lib.hid (HT.out w4)
      go_wp2_with (with_reducible refine wpList_load_row (o := ⟨some 115, _, _, _, _, _⟩) rfl 24 _ rfl (wr.heap.size) rfl 24 (lkC { l with ws := [] } none 0) (0, 0) _ (HO4.out).raw11 Try.underlying24 rfl (by kernel_rfl) ?_)
      refine HK.out.mono ?_
      rintro e w5 ⟨A5, c5, B5, d5, rfl, _, _, hb5⟩
      have HB5 := Lib.hid (HB4.out.trans (hb5.mono HB4.out.size)); have HP5 := Lib.hid (HP4.out.under hb5 HP4.out.lt)
      clear hb5 HK HT HO4 HB4 HP4
      have hm5 : Has (w5.alloc (.cells #[.int .i64 0, .int .i64 0, .int .i64 0, .int .i64 0, .slice none 0 0] 24)) w5.heap.size 24 #[.int .i64 0, .int .i64 0, .int .i64 0, .int .i64 0, .slice none 0 0] := Has.made _ _ _
      have HM5 := Lib.hid hm5
      obtain ⟨w6, hw6⟩ : ∃ w6, (w5.alloc (.cells #[.int .i64 0, .int .i64 0, .int .i64 0, .int .i64 0, .slice none 0 0] 24)).setRow w5.heap.size (lkC r A5 c5) = w6 := ⟨_, rfl⟩
      have hb6 : Below w5.heap.size w5 w6 := by rw [← hw6]; exact below_row (g := w5.heap.size) ((Below.refl _ _).alloc (Nat.le_refl _) _) (Nat.le_refl _) _
      have HB6 := Lib.hid (HB5.out.trans (hb6.mono HB5.out.size))
      have hp6 := HP5.out.under hb6 HP5.out.lt
      have e3 : w6.cell? ⟨w.heap.size, 3, none⟩ = some (.int .i64 l.heard) := hp6.cell 3
      have e2 : w6.cell? ⟨w.heap.size, 2, none⟩ = some (.int .i64 l.quiet) := hp6.cell 2
      have HW6 := Lib.hid hw6
      clear hw6 hm5 hb6 hp6 HP5 HB5
      go_upto_region 20 with (with_reducible refine wpList_store_rowTo (o := ⟨none, _, _, _, _, _⟩) rfl 24 _ _ rfl rfl (w5.heap.size) (lkC r A5 c5) rfl rfl 24 _ (HM5.out).raw11 (by kernel_rfl) (by kernel_rfl) (by kernel_rfl) ?_)
      rw [HW6.out]
      clear HW6 HM5
      have hr : wrap64 (now - l.heard) = now - l.heard := IntWalk.wrap64_in _ (by omega)
      have hde : decide (l.quiet < now - l.heard) = decide (l.heard + l.quiet < now) := by rw [decide_eq_decide]; omega
      clear hmb
      go_wp2
      go_ret
      exact ⟨by first | rfl | (simp; done) | (rw [hde]; simp), HB6.out⟩
    obtain ⟨x, hx⟩ : ∃ x, l.ws[j]? = some x := ⟨_, List.getElem?_eq_getElem (by rw [HNL.out]; exact hlt)⟩
    obtain ⟨hk1, hk2, hk3, hk4⟩ := acked_facts HM.out (List.mem_of_getElem? hx)
    obtain ⟨bk, off, v, rfl, -, -, d0, -, -, -⟩ := (HST.out wr HBL.out).2.1.body (Below.refl _ _) hx
    have hta := tick_again (l := ackedL l x.t) (now := now)
    have htz := tick_zero hk2 HNT.out
    have hac := fun W (hW : WsR (fun b => b < w.heap.size) W (some ⟨bk, off, none⟩) l.ws.length c l.ws) => olk_acked (P := (fun b => b < w.heap.size)) l (some ⟨bk, off, none⟩) c x.t W hW (may_light HM.out)
    have htk := fun (P : Nat → Prop) W A c hw => olk_tick (P := P) (ackedL l x.t) A c now W hw (may_light hk2)
    unfold TickPost at htk
    rw [hk1] at hac
    simp only [htz] at htk
    have HEL := Lib.hid (fun W (hW : Below wr.heap.size wr W) => (hW.cell (cell_block d0)).trans d0)
    generalize ackedL l x.t = r at *
    have HX4 := Lib.hid hk4; have HAC := Lib.hid hac; have HTK := Lib.hid htk
    clear hk1 hk2 hac htk htz hk4 hx v
    generalize x.t = T at *
    generalize tickL r now = tr at *
    generalize tickA r now = ta at *
    generalize tickLost r now = tl at *
    have y0 : (0 : Int) ≤ j := by omega
    have y1 : (j : Int) < n := by omega
    obtain ⟨w1, hw1⟩ : ∃ w1, w1 = wr := ⟨_, rfl⟩
    subst hw1
    obtain ⟨k1, hk1⟩ : ∃ k1, k1 = gk := ⟨_, rfl⟩
    subst hk1
    go_upto_region 8 with fail
    clear c4 d0
    go_cut [8, 9] (fun s8 s9 wx => ∃ gx A2 c2, s8 = .pointer (some ⟨gx, 0, none⟩) ∧ s9 = .int .i64 0 ∧ w1.heap.size ≤ gx ∧ Has wx gx 24 (lkC r A2 c2) ∧ WsR (fun _ => True) wx A2 r.ws.length c2 r.ws ∧ Below w1.heap.size w1 wx)
    case first =>
      refine wp_region_held_drew (S := (fun W_ => Has W_ (w.heap.size) 24 (lkC l (some ⟨bk, off, none⟩) c) ∧ Below w1.heap.size w1 W_)) (by kernel_rfl) ?_ (fun hHeld => ?_)
      · exact ⟨(HST.out w1 HBL.out).1.draw, below_dr11 (Below.refl _ _)⟩
      refine wpAnyH_take (i := 0) (oi := ⟨some 51, _, _, _, _, _⟩) (v := .agg (lkC l (some ⟨bk, off, none⟩) c)) rfl (by kernel_rfl) (by kernel_rfl) (by kernel_rfl) (fun _ _ _ h => h) (yields_load_row11 24 _ rfl (w.heap.size) rfl 24 (lkC l (some ⟨bk, off, none⟩) c) _ (fun _ ⟨h_, _⟩ => h_) Try.underlying24 rfl (by kernel_rfl) (by rfl)) (by assumption) ?_
      simp only [Act.put, List.setIfInBounds_toArray, List.set_cons_zero, List.set_cons_succ]
      refine wpAnyH_take (i := 1) (oi := ⟨some 52, _, _, _, _, _⟩) (v := ?_) rfl (by kernel_rfl) (by kernel_rfl) (by kernel_rfl) (fun _ _ _ h => h) (Or.inl ⟨by rfl, ?_⟩) (by assumption) ?_
      rotate_left
      · intro w_ hSw; (try dsimp only at hSw); go_simp <;> with_reducible rfl
      simp only [Act.put, List.setIfInBounds_toArray, List.set_cons_zero, List.set_cons_succ]
      refine wpAnyH_take (i := 2) (oi := ⟨some 53, _, _, _, _, _⟩) (v := ?_) rfl (by kernel_rfl) (by kernel_rfl) (by kernel_rfl) (fun _ _ _ h => h) (Or.inl ⟨by rfl, ?_⟩) (by assumption) ?_
      rotate_left
      · intro w_ hSw; (try dsimp only at hSw); have c4_ : w_.cell? ⟨w.heap.size, 4, none⟩ = some (.slice (some ⟨bk, off, none⟩) n c) := (by have h_ := hSw.1.cell 4; rw [← HNL.out]; exact h_); go_simp <;> with_reducible rfl
      simp only [Act.put, List.setIfInBounds_toArray, List.set_cons_zero, List.set_cons_succ]
      refine wpAnyH_take (i := 3) (oi := ⟨some 54, _, _, _, _, _⟩) (v := ?_) rfl (by kernel_rfl) (by kernel_rfl) (by kernel_rfl) (fun _ _ _ h => h) (Or.inl ⟨by rfl, ?_⟩) (by assumption) ?_
      rotate_left
      · intro w_ hSw; (try dsimp only at hSw); go_simp <;> with_reducible rfl
      simp only [Act.put, List.setIfInBounds_toArray, List.set_cons_zero, List.set_cons_succ]
      refine wpAnyH_take (i := 4) (oi := ⟨some 55, _, _, _, _, _⟩) (v := ?_) rfl (by kernel_rfl) (by kernel_rfl) (by kernel_rfl) (fun _ _ _ h => h) (Or.inl ⟨by rfl, ?_⟩) (by assumption) ?_
      rotate_left
      · intro w_ hSw; (try dsimp only at hSw); go_simp <;> with_reducible rfl
      simp only [Act.put, List.setIfInBounds_toArray, List.set_cons_zero, List.set_cons_succ]
      refine wpAnyH_take (i := 5) (oi := ⟨some 56, _, _, _, _, _⟩) (v := ?_) rfl (by kernel_rfl) (by kernel_rfl) (by kernel_rfl) (fun _ _ _ h => h) (Or.inl ⟨by rfl, ?_⟩) (by assumption) ?_
      rotate_left
      · intro w_ hSw; (try dsimp only at hSw); go_simp <;> with_reducible rfl
      simp only [Act.put, List.setIfInBounds_toArray, List.set_cons_zero, List.set_cons_succ]
      refine wpAnyH_take (i := 6) (oi := ⟨some 57, _, _, _, _, _⟩) (v := ?_) rfl (by kernel_rfl) (by kernel_rfl) (by kernel_rfl) (fun _ _ _ h => h) (Or.inl ⟨by rfl, ?_⟩) (by assumption) ?_
      rotate_left
      · intro w_ hSw; (try dsimp only at hSw); have c5_ := HEL.out w_ hSw.2; go_simp <;> with_reducible rfl
      simp only [Act.put, List.setIfInBounds_toArray, List.set_cons_zero, List.set_cons_succ]
      refine wpAnyH_ready (rs := [7, 11]) (by kernel_rfl) (by simp) ?_
      refine AllReadyH.cons (o := ⟨some 58, _, _, _, _, _⟩) rfl (fun K hK => ?_) ?_
      · go_simp
        obtain ⟨s0, s1⟩ := hHeld
        have hws_ := (HST.out _ (HBL.out.trans (s1.mono HBL.out.size))).2.1
        have hsz0_ := s1.size
        refine (HAC.out _ hws_).mono ?_
        rintro e_ vs ⟨A2, c2, rfl, hw_, hbs⟩
        have hsz_ := hbs.size
        go_wp2_with fail
        refine hK.out _ _ ?_ (fun hHeld => ?_)
        · exact ⟨s0.under hbs s0.lt, s1.trans (hbs.mono s1.size)⟩
        refine wpAnyH_more11 (T := (fun W_ => Has W_ (w.heap.size) 24 (lkC l (some ⟨bk, off, none⟩) c) ∧ Below w1.heap.size w1 W_ ∧ WsR (fun b => b < vs.heap.size) W_ A2 r.ws.length c2 r.ws)) (fun _ ⟨s0, s1, s2⟩ => ⟨s0, s1⟩) ?_
        have hHeld2 : (fun W_ => Has W_ (w.heap.size) 24 (lkC l (some ⟨bk, off, none⟩) c) ∧ Below w1.heap.size w1 W_ ∧ WsR (fun b => b < vs.heap.size) W_ A2 r.ws.length c2 r.ws) _ := ⟨s0.under hbs s0.lt, s1.trans (hbs.mono s1.size), (hw_.wide (fun b_ h_ => by have h1_ := HBL.out.size; simp only [Nw] at h_; omega))⟩
        clear hHeld
        have hHeld := hHeld2
        clear hHeld2
        clear hK K s0 s1
        try simp only [Act.put, List.setIfInBounds_toArray, List.set_cons_zero, List.set_cons_succ]
        refine wpAnyH_take (i := 8) (oi := ⟨some 50, _, _, _, _, _⟩) (v := ?_) rfl (by kernel_rfl) (by kernel_rfl) (by kernel_rfl) (fun _ _ _ h => h) (Or.inl ⟨by rfl, ?_⟩) (by assumption) ?_
        rotate_left
        · intro w_ hSw; (try dsimp only at hSw); go_simp <;> with_reducible rfl
        simp only [Act.put, List.setIfInBounds_toArray, List.set_cons_zero, List.set_cons_succ]
        refine wpAnyH_take (i := 9) (oi := ⟨some 59, _, _, _, _, _⟩) (v := ?_) rfl (by kernel_rfl) (by kernel_rfl) (by kernel_rfl) (fun _ _ _ h => h) (Or.inl ⟨by rfl, ?_⟩) (by assumption) ?_
        rotate_left
        · intro w_ hSw; (try dsimp only at hSw); go_simp <;> with_reducible rfl
        simp only [Act.put, List.setIfInBounds_toArray, List.set_cons_zero, List.set_cons_succ]
        refine wpAnyH_take (i := 10) (oi := ⟨some 60, _, _, _, _, _⟩) (v := ?_) rfl (by kernel_rfl) (by kernel_rfl) (by kernel_rfl) (fun _ _ _ h => h) (Or.inl ⟨by rfl, ?_⟩) (by assumption) ?_
        rotate_left
        · intro w_ hSw; (try dsimp only at hSw); go_simp <;> with_reducible rfl
        simp only [Act.put, List.setIfInBounds_toArray, List.set_cons_zero, List.set_cons_succ]
        refine wpAnyH_ready (rs := [11]) (by kernel_rfl) (by simp) ?_
        refine AllReadyH.cons (o := ⟨some 8, _, _, _, _, _⟩) rfl (fun K hK => ?_) ?_
        · go_simp
          obtain ⟨s0, s1, s2⟩ := hHeld
          obtain ⟨gx, hgx⟩ : ∃ gx, vs.heap.size = gx := ⟨_, rfl⟩
          have hgl : w.heap.size < gx := by rw [← hgx]; exact s0.lt
          have hgl2 : w1.heap.size ≤ gx := by rw [← hgx]; exact s1.size
          have hgxle : vs.heap.size ≤ gx := Nat.le_of_eq hgx
          rw [hgx]
          refine hK.out _ _ ?_ (fun hHeld => ?_)
          · exact ⟨s0.beside _, below_al11 s1 _, (s2.under ((Below.refl _ _).alloc (Nat.le_refl _) _))⟩
          refine wpAnyH_more11 (T := (fun W_ => Has W_ (w.heap.size) 24 (lkC l (some ⟨bk, off, none⟩) c) ∧ Below w1.heap.size w1 W_ ∧ WsR (fun b => b < vs.heap.size) W_ A2 r.ws.length c2 r.ws ∧ (∃ o_ : Array Value, Has W_ (gx) 24 o_ ∧ o_.size = 5))) (fun _ ⟨s0, s1, s2, s3⟩ => ⟨s0, s1, s2⟩) ?_
          have hHeld2 : (fun W_ => Has W_ (w.heap.size) 24 (lkC l (some ⟨bk, off, none⟩) c) ∧ Below w1.heap.size w1 W_ ∧ WsR (fun b => b < vs.heap.size) W_ A2 r.ws.length c2 r.ws ∧ (∃ o_ : Array Value, Has W_ (gx) 24 o_ ∧ o_.size = 5)) _ := ⟨s0.beside (.cells #[.int .i64 0, .int .i64 0, .int .i64 0, .int .i64 0, .slice none 0 0] 24), below_al11 s1 (.cells #[.int .i64 0, .int .i64 0, .int .i64 0, .int .i64 0, .slice none 0 0] 24), (s2.under ((Below.refl _ _).alloc (Nat.le_refl _) (.cells #[.int .i64 0, .int .i64 0, .int .i64 0, .int .i64 0, .slice none 0 0] 24))), ⟨#[.int .i64 0, .int .i64 0, .int .i64 0, .int .i64 0, .slice none 0 0], (by rw [← hgx]; exact Has.made _ _ _), by kernel_rfl⟩⟩
          clear hHeld
          have hHeld := hHeld2
          clear hHeld2 hK K hgx s0 s1 s2
          try simp only [Act.put, List.setIfInBounds_toArray, List.set_cons_zero, List.set_cons_succ]
          refine wpAnyH_ready (rs := [12]) (by kernel_rfl) (by simp) ?_
          refine AllReadyH.cons (o := ⟨none, _, _, _, _, _⟩) rfl (fun K hK => ?_) ?_
          · rw [if_pos (by rfl)]
            obtain ⟨s0, s1, s2, s3⟩ := hHeld
            obtain ⟨o_, h_, e_⟩ := s3
            refine wp_store_row 24 _ _ rfl (gx) (lkC r A2 c2) (by rfl) (by rfl) 24 o_ h_.raw11 (by kernel_rfl) e_ (by kernel_rfl) ?_
            refine hK.out _ _ ?_ (fun hHeld => ?_)
            · exact ⟨has_rowo11 s0 (by omega) _, below_row s1 (by omega) _, s2.row (by show ¬ (_ < _); omega) _, ⟨_, has_row11 h_ (lkC r A2 c2), by kernel_rfl⟩⟩
            refine wpAnyH_more11 (T := (fun W_ => Has W_ (w.heap.size) 24 (lkC l (some ⟨bk, off, none⟩) c) ∧ Below w1.heap.size w1 W_ ∧ WsR (fun b => b < vs.heap.size) W_ A2 r.ws.length c2 r.ws ∧ Has W_ (gx) 24 (lkC r A2 c2))) (fun _ ⟨s0, s1, s2, s3⟩ => ⟨s0, s1, s2, ⟨_, s3, by kernel_rfl⟩⟩) ?_
            have hHeld2 : (fun W_ => Has W_ (w.heap.size) 24 (lkC l (some ⟨bk, off, none⟩) c) ∧ Below w1.heap.size w1 W_ ∧ WsR (fun b => b < vs.heap.size) W_ A2 r.ws.length c2 r.ws ∧ Has W_ (gx) 24 (lkC r A2 c2)) _ := ⟨has_rowo11 s0 (by omega) _, below_row s1 (by omega) _, s2.row (by show ¬ (_ < _); omega) _, has_row11 h_ (lkC r A2 c2)⟩
            clear hHeld
            have hHeld := hHeld2
            clear hHeld2 hK K h_ e_ s0 s1 s2
            try simp only [Act.put]
            refine wpAnyH_take (i := 13) (oi := ⟨some 9, _, _, _, _, _⟩) (v := ?_) rfl (by kernel_rfl) (by kernel_rfl) (by kernel_rfl) (fun _ _ _ h => h) (Or.inl ⟨by rfl, ?_⟩) (by assumption) ?_
            rotate_left
            · intro w_ hSw; (try dsimp only at hSw); go_simp <;> with_reducible rfl
            simp only [Act.put, List.setIfInBounds_toArray, List.set_cons_zero, List.set_cons_succ]
            refine wpAnyH_done (by kernel_rfl) ?_ _
            go_wp2_with fail
            go_meet
            exact ⟨gx, A2, c2, rfl, rfl, hgl2, hHeld.2.2.2, hHeld.2.2.1.wide (fun _ _ => trivial), hHeld.2.1⟩
          exact AllReadyH.nil
        exact AllReadyH.nil
      refine AllReadyH.cons (o := ⟨some 8, _, _, _, _, _⟩) rfl (fun K hK => ?_) ?_
      · go_simp
        obtain ⟨s0, s1⟩ := hHeld
        obtain ⟨gx, hgx⟩ : ∃ gx, w1.heap.size = gx := ⟨_, rfl⟩
        have hgl : w.heap.size < gx := by rw [← hgx]; exact s0.lt
        have hgl2 : w1.heap.size ≤ gx := by rw [← hgx]; exact s1.size
        have hgxle : w1.heap.size ≤ gx := Nat.le_of_eq hgx
        rw [hgx]
        refine hK.out _ _ ?_ (fun hHeld => ?_)
        · exact ⟨s0.beside _, below_al11 s1 _⟩
        refine wpAnyH_more11 (T := (fun W_ => Has W_ (w.heap.size) 24 (lkC l (some ⟨bk, off, none⟩) c) ∧ Below w1.heap.size w1 W_ ∧ (∃ o_ : Array Value, Has W_ (gx) 24 o_ ∧ o_.size = 5))) (fun _ ⟨s0, s1, s2⟩ => ⟨s0, s1⟩) ?_
        have hHeld2 : (fun W_ => Has W_ (w.heap.size) 24 (lkC l (some ⟨bk, off, none⟩) c) ∧ Below w1.heap.size w1 W_ ∧ (∃ o_ : Array Value, Has W_ (gx) 24 o_ ∧ o_.size = 5)) _ := ⟨s0.beside (.cells #[.int .i64 0, .int .i64 0, .int .i64 0, .int .i64 0, .slice none 0 0] 24), below_al11 s1 (.cells #[.int .i64 0, .int .i64 0, .int .i64 0, .int .i64 0, .slice none 0 0] 24), ⟨#[.int .i64 0, .int .i64 0, .int .i64 0, .int .i64 0, .slice none 0 0], (by rw [← hgx]; exact Has.made _ _ _), by kernel_rfl⟩⟩
        clear hHeld
        have hHeld := hHeld2
        clear hHeld2 hK K hgx s0 s1
        try simp only [Act.put, List.setIfInBounds_toArray, List.set_cons_zero, List.set_cons_succ]
        refine wpAnyH_ready (rs := [7]) (by kernel_rfl) (by simp) ?_
        refine AllReadyH.cons (o := ⟨some 58, _, _, _, _, _⟩) rfl (fun K hK => ?_) ?_
        · go_simp
          obtain ⟨s0, s1, s2⟩ := hHeld
          have hws_ := (HST.out _ (HBL.out.trans (s1.mono HBL.out.size))).2.1
          have hgx_ := (let ⟨_, h_, _⟩ := s2; h_.lt)
          have hsz0_ := s1.size
          refine (HAC.out _ hws_).mono ?_
          rintro e_ vs ⟨A2, c2, rfl, hw_, hbs⟩
          have hsz_ := hbs.size
          go_wp2_with fail
          refine hK.out _ _ ?_ (fun hHeld => ?_)
          · exact ⟨s0.under hbs s0.lt, s1.trans (hbs.mono s1.size), (let ⟨o_, h_, e_⟩ := s2; ⟨o_, h_.under hbs h_.lt, e_⟩)⟩
          refine wpAnyH_more11 (T := (fun W_ => Has W_ (w.heap.size) 24 (lkC l (some ⟨bk, off, none⟩) c) ∧ Below w1.heap.size w1 W_ ∧ (∃ o_ : Array Value, Has W_ (gx) 24 o_ ∧ o_.size = 5) ∧ WsR (fun b => b ≠ gx) W_ A2 r.ws.length c2 r.ws)) (fun _ ⟨s0, s1, s2, s3⟩ => ⟨s0, s1, s2⟩) ?_
          have hHeld2 : (fun W_ => Has W_ (w.heap.size) 24 (lkC l (some ⟨bk, off, none⟩) c) ∧ Below w1.heap.size w1 W_ ∧ (∃ o_ : Array Value, Has W_ (gx) 24 o_ ∧ o_.size = 5) ∧ WsR (fun b => b ≠ gx) W_ A2 r.ws.length c2 r.ws) _ := ⟨s0.under hbs s0.lt, s1.trans (hbs.mono s1.size), (let ⟨o_, h_, e_⟩ := s2; ⟨o_, h_.under hbs h_.lt, e_⟩), (hw_.wide (fun b_ h_ => by have h1_ := HBL.out.size; simp only [Nw] at h_; omega))⟩
          clear hHeld
          have hHeld := hHeld2
          clear hHeld2
          clear hK K s0 s1 s2
          try simp only [Act.put, List.setIfInBounds_toArray, List.set_cons_zero, List.set_cons_succ]
          refine wpAnyH_take (i := 8) (oi := ⟨some 50, _, _, _, _, _⟩) (v := ?_) rfl (by kernel_rfl) (by kernel_rfl) (by kernel_rfl) (fun _ _ _ h => h) (Or.inl ⟨by rfl, ?_⟩) (by assumption) ?_
          rotate_left
          · intro w_ hSw; (try dsimp only at hSw); go_simp <;> with_reducible rfl
          simp only [Act.put, List.setIfInBounds_toArray, List.set_cons_zero, List.set_cons_succ]
          refine wpAnyH_take (i := 9) (oi := ⟨some 59, _, _, _, _, _⟩) (v := ?_) rfl (by kernel_rfl) (by kernel_rfl) (by kernel_rfl) (fun _ _ _ h => h) (Or.inl ⟨by rfl, ?_⟩) (by assumption) ?_
          rotate_left
          · intro w_ hSw; (try dsimp only at hSw); go_simp <;> with_reducible rfl
          simp only [Act.put, List.setIfInBounds_toArray, List.set_cons_zero, List.set_cons_succ]
          refine wpAnyH_take (i := 10) (oi := ⟨some 60, _, _, _, _, _⟩) (v := ?_) rfl (by kernel_rfl) (by kernel_rfl) (by kernel_rfl) (fun _ _ _ h => h) (Or.inl ⟨by rfl, ?_⟩) (by assumption) ?_
          rotate_left
          · intro w_ hSw; (try dsimp only at hSw); go_simp <;> with_reducible rfl
          simp only [Act.put, List.setIfInBounds_toArray, List.set_cons_zero, List.set_cons_succ]
          refine wpAnyH_ready (rs := [12]) (by kernel_rfl) (by simp) ?_
          refine AllReadyH.cons (o := ⟨none, _, _, _, _, _⟩) rfl (fun K hK => ?_) ?_
          · rw [if_pos (by rfl)]
            obtain ⟨s0, s1, s2, s3⟩ := hHeld
            obtain ⟨o_, h_, e_⟩ := s2
            refine wp_store_row 24 _ _ rfl (gx) (lkC r A2 c2) (by rfl) (by rfl) 24 o_ h_.raw11 (by kernel_rfl) e_ (by kernel_rfl) ?_
            refine hK.out _ _ ?_ (fun hHeld => ?_)
            · exact ⟨has_rowo11 s0 (by omega) _, below_row s1 (by omega) _, ⟨_, has_row11 h_ (lkC r A2 c2), by kernel_rfl⟩, s3.row (fun h_ => h_ rfl) _⟩
            refine wpAnyH_more11 (T := (fun W_ => Has W_ (w.heap.size) 24 (lkC l (some ⟨bk, off, none⟩) c) ∧ Below w1.heap.size w1 W_ ∧ Has W_ (gx) 24 (lkC r A2 c2) ∧ WsR (fun b => b ≠ gx) W_ A2 r.ws.length c2 r.ws)) (fun _ ⟨s0, s1, s2, s3⟩ => ⟨s0, s1, ⟨_, s2, by kernel_rfl⟩, s3⟩) ?_
            have hHeld2 : (fun W_ => Has W_ (w.heap.size) 24 (lkC l (some ⟨bk, off, none⟩) c) ∧ Below w1.heap.size w1 W_ ∧ Has W_ (gx) 24 (lkC r A2 c2) ∧ WsR (fun b => b ≠ gx) W_ A2 r.ws.length c2 r.ws) _ := ⟨has_rowo11 s0 (by omega) _, below_row s1 (by omega) _, has_row11 h_ (lkC r A2 c2), s3.row (fun h_ => h_ rfl) _⟩
            clear hHeld
            have hHeld := hHeld2
            clear hHeld2 hK K h_ e_ s0 s1 s3
            try simp only [Act.put]
            refine wpAnyH_take (i := 13) (oi := ⟨some 9, _, _, _, _, _⟩) (v := ?_) rfl (by kernel_rfl) (by kernel_rfl) (by kernel_rfl) (fun _ _ _ h => h) (Or.inl ⟨by rfl, ?_⟩) (by assumption) ?_
            rotate_left
            · intro w_ hSw; (try dsimp only at hSw); go_simp <;> with_reducible rfl
            simp only [Act.put, List.setIfInBounds_toArray, List.set_cons_zero, List.set_cons_succ]
            refine wpAnyH_done (by kernel_rfl) ?_ _
            go_wp2_with fail
            go_meet
            exact ⟨gx, A2, c2, rfl, rfl, hgl2, hHeld.2.2.1, hHeld.2.2.2.wide (fun _ _ => trivial), hHeld.2.1⟩
          exact AllReadyH.nil
        exact AllReadyH.nil
      exact AllReadyH.nil
    case rest =>
      obtain ⟨gx, A2, c2, rfl, rfl, hgl2, hg, hws, hbx⟩ := hcut
      have HG := Lib.hid hg; have HWS := Lib.hid hws; have HBX := Lib.hid (HBL.out.trans (hbx.mono HBL.out.size)); have HBV := Lib.hid hbx
      have HK := Lib.hid (HTK.out _ wc A2 c2 hws)
      clear hg hws hbx HAC HTK
      go_wp2_with (with_reducible refine wpList_load_row (o := ⟨some 62, _, _, _, _, _⟩) rfl 24 _ rfl (gx) rfl 24 (lkC r A2 c2) (0, 0) _ (HG.out).raw11 Try.underlying24 rfl (by kernel_rfl) ?_)
      refine HK.out.mono ?_
      rintro e w5 ⟨A5, c5, B5, d5, rfl, _, _, hb5⟩
      have HB5 := Lib.hid (HBX.out.trans (hb5.mono HBX.out.size)); have HBY := Lib.hid (HBV.out.trans (hb5.mono HBV.out.size)); have HG5 := Lib.hid (HG.out.under hb5 HG.out.lt); have HW5 := Lib.hid (HWS.out.under hb5)
      clear hb5 HK HG HWS HBX
      have hm5 : Has (w5.alloc (.cells #[.int .i64 0, .int .i64 0, .int .i64 0, .int .i64 0, .slice none 0 0] 24)) w5.heap.size 24 #[.int .i64 0, .int .i64 0, .int .i64 0, .int .i64 0, .slice none 0 0] := Has.made _ _ _
      have HM5 := Lib.hid hm5
      obtain ⟨w6, hw6⟩ : ∃ w6, (w5.alloc (.cells #[.int .i64 0, .int .i64 0, .int .i64 0, .int .i64 0, .slice none 0 0] 24)).setRow w5.heap.size (lkC tr A5 c5) = w6 := ⟨_, rfl⟩
      have hb6 : Below w5.heap.size w5 w6 := by rw [← hw6]; exact below_row (g := w5.heap.size) ((Below.refl _ _).alloc (Nat.le_refl _) _) (Nat.le_refl _) _
      have HB6 := Lib.hid (HB5.out.trans (hb6.mono HB5.out.size)); have HBQ := Lib.hid (fun W (hW : Below w6.heap.size w6 W) => HBY.out.trans ((hb6.trans (hW.mono hb6.size)).mono HBY.out.size)); have HG6 := Lib.hid (HG5.out.under hb6 HG5.out.lt); have HW6 := Lib.hid (HW5.out.under hb6)
      have HWW := Lib.hid hw6
      clear hw6 hm5 hb6 HB5 HG5 HW5
      have c4 : w6.cell? ⟨w.heap.size, 4, none⟩ = some (.slice (some ⟨bk, off, none⟩) n c) := by have h_ := (HST.out w6 HB6.out).1.cell 4; rw [← HNL.out]; exact h_
      go_upto_region 10 with (with_reducible refine wpList_store_rowTo (o := ⟨none, _, _, _, _, _⟩) rfl 24 _ _ rfl rfl (w5.heap.size) (lkC tr A5 c5) rfl rfl 24 _ (HM5.out).raw11 (by kernel_rfl) (by kernel_rfl) (by kernel_rfl) ?_)
      rw [HWW.out]
      clear HWW HM5
      obtain ⟨m, hm⟩ : ∃ m, ta.length = m := ⟨_, rfl⟩
      rw [hm] at hta
      have x1 : ¬ (n : Int) - 1 < (m : Int) := by have h1_ := hta.1; have h2_ := HNL.out; omega
      have hr : wrap64 ((n : Int) - 1) = (n : Int) - 1 := IntWalk.wrap64_in _ (by omega)
      have x2 : tl = true → ¬ (0 : Int) < (m : Int) := fun h_ => by have := hta.2 h_; omega
      simp only [hm]
      obtain ⟨mw, hmw⟩ : ∃ mw, r.ws.length = mw := ⟨_, rfl⟩
      have HMW := Lib.hid hmw
      have g4 : w6.cell? ⟨gx, 4, none⟩ = some (.slice A2 mw c2) := by have h_ := HG6.out.cell 4; rw [← hmw]; exact h_
      have hmn : mw + 1 ≤ n := by have := HNL.out; omega
      clear hta hm hmw hk3
      skip
      cases tl with
      | true =>
        have x3 := x2 rfl
        clear x2
        go_upto_region 12 with fail
        clear x1 hr x3
        clear c4
        go_wp2
        go_loopg [14] mw (fun kk v wl => ∃ i : Nat, i ≤ mw ∧ mw - i ≤ kk ∧ v = .int .i64 i ∧ ∃ q, wl = w6.drewN q)
        case atStart => exact ⟨0, by omega, by omega, rfl, 0, rfl⟩
        case round =>
          obtain ⟨i, hi, hik, rfl, q, hq⟩ := hrel
          have hbq : Below w6.heap.size w6 wr := by rw [hq]; exact below_draws (Below.refl _ _) q
          have hB := HB6.out.trans (hbq.mono HB6.out.size)
          have g4 : wr.cell? ⟨gx, 4, none⟩ = some (.slice A2 mw c2) := by have h_ := (HG6.out.under hbq HG6.out.lt).cell 4; rw [← HMW.out]; exact h_
          have c4 : wr.cell? ⟨w.heap.size, 4, none⟩ = some (.slice (some ⟨bk, off, none⟩) n c) := by have h_ := (HST.out wr hB).1.cell 4; rw [← HNL.out]; exact h_
          have HQ := Lib.hid hq; have HBR := Lib.hid hB
          by_cases hil : i < mw
          · obtain ⟨y, hy⟩ : ∃ y, r.ws[i]? = some y := ⟨_, List.getElem?_eq_getElem (by rw [HMW.out]; exact hil)⟩
            have hne := HX4.out y (List.mem_of_getElem? hy)
            obtain ⟨b2, o2, v2, rfl, -, f0, -, -, -⟩ := (HW6.out.under hbq).at_ hy
            have d0 := HEL.out wr (HBQ.out wr hbq)
            have hbe : (y.t == T) = false := by simp [hne]
            generalize y.t = Y at *
            have z0 : (0 : Int) ≤ i := by omega
            have z1 : (i : Int) < mw := by omega
            clear hy hne hbq hB hq
            go_upto_region 15 with fail
            go_quiet (fail)
            go_wp2
            go_roundg (gk - 1)
            case measure => omega
            case rel => exact ⟨i + 1, by omega, by omega, by go_num, q + nq, by rw [HQ.out, World.drewN_drewN]⟩
          · have z1 : ¬ (i : Int) < mw := by omega
            clear hbq hB hq
            go_wp2
            go_roundg (k1 - 1)
            case measure => omega
            case rel => exact ⟨j + 1, by omega, by omega, by go_num, HBR.out⟩
      | false =>
        clear x2
        go_upto_region 12 with fail
        clear x1 hr
        clear c4
        go_wp2
        go_loopg [14] mw (fun kk v wl => ∃ i : Nat, i ≤ mw ∧ mw - i ≤ kk ∧ v = .int .i64 i ∧ ∃ q, wl = w6.drewN q)
        case atStart => exact ⟨0, by omega, by omega, rfl, 0, rfl⟩
        case round =>
          obtain ⟨i, hi, hik, rfl, q, hq⟩ := hrel
          have hbq : Below w6.heap.size w6 wr := by rw [hq]; exact below_draws (Below.refl _ _) q
          have hB := HB6.out.trans (hbq.mono HB6.out.size)
          have g4 : wr.cell? ⟨gx, 4, none⟩ = some (.slice A2 mw c2) := by have h_ := (HG6.out.under hbq HG6.out.lt).cell 4; rw [← HMW.out]; exact h_
          have c4 : wr.cell? ⟨w.heap.size, 4, none⟩ = some (.slice (some ⟨bk, off, none⟩) n c) := by have h_ := (HST.out wr hB).1.cell 4; rw [← HNL.out]; exact h_
          have HQ := Lib.hid hq; have HBR := Lib.hid hB
          by_cases hil : i < mw
          · obtain ⟨y, hy⟩ : ∃ y, r.ws[i]? = some y := ⟨_, List.getElem?_eq_getElem (by rw [HMW.out]; exact hil)⟩
            have hne := HX4.out y (List.mem_of_getElem? hy)
            obtain ⟨b2, o2, v2, rfl, -, f0, -, -, -⟩ := (HW6.out.under hbq).at_ hy
            have d0 := HEL.out wr (HBQ.out wr hbq)
            have hbe : (y.t == T) = false := by simp [hne]
            generalize y.t = Y at *
            have z0 : (0 : Int) ≤ i := by omega
            have z1 : (i : Int) < mw := by omega
            clear hy hne hbq hB hq
            go_upto_region 15 with fail
            go_quiet (fail)
            go_wp2
            go_roundg (gk - 1)
            case measure => omega
            case rel => exact ⟨i + 1, by omega, by omega, by go_num, q + nq, by rw [HQ.out, World.drewN_drewN]⟩
          · have z1 : ¬ (i : Int) < mw := by omega
            clear hbq hB hq
            go_wp2
            go_roundg (k1 - 1)
            case measure => omega
            case rel => exact ⟨j + 1, by omega, by omega, by go_num, HBR.out⟩
end Go.Proofs.Ytbohoejikihnfaa
