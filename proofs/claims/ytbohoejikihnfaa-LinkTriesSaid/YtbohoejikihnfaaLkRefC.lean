/-
  linesideref12, by contract: Acked.
-/
import Derived.Test.YtbohoejikihnfaaLkRefB

namespace Go.Proofs.Ytbohoejikihnfaa

open Go.RowKit

open Go.Great

theorem filter_step12 (F : W0 → Bool) (ws : List W0) {j : Nat} {x : W0} (hx : ws[j]? = some x) : (ws.take (j + 1)).filter F = if F x = true then (ws.take j).filter F ++ [x] else (ws.take j).filter F := by
  obtain ⟨h, e⟩ := List.getElem?_eq_some_iff.1 hx
  rw [List.take_succ_eq_append_getElem h, List.filter_append, e]
  by_cases hf : F x = true
  · rw [if_pos hf, List.filter_cons_of_pos hf]; rfl
  · rw [if_neg hf, List.filter_cons_of_neg hf]; simp
theorem may_len {l : L0} (h : mayL l = true) : l.ws.length ≤ 8 := by
  unfold mayL at h
  simp only [Bool.and_eq_true, decide_eq_true_eq] at h
  exact h.2.1

set_option maxRecDepth 100000 in
set_option maxHeartbeats 8000000 in
theorem racked_any {P : Nat → Prop} (l : L0) (A : Option Addr) (c : Nat) (t : Int) (w : World) (hw : WsR P w A l.ws.length c l.ws) :
    Calls Try.prog 14 #[.agg (lkC l A c), .int .i64 t] w fun e w' => ∃ A' c', e = .returned (.tuple #[.agg (lkC (ackedL l t) A' c'), .int .i64 (ackedE l t)]) ∧ WsR (Nw P w w') w' A' (ackedL l t).ws.length c' (ackedL l t).ws ∧ Below w.heap.size w w' := by
  obtain ⟨wa, hwa⟩ : ∃ wa, (w.alloc (.cells (lkC l A c) 24)).alloc (.cells #[.int .i64 0, .int .i64 0, .int .i64 0, .int .i64 0, .slice none 0 0] 24) = wa := ⟨_, rfl⟩
  have hbwa : Below w.heap.size w wa := by rw [← hwa]; exact ((Below.refl _ _).alloc (Nat.le_refl _) _).alloc (by simp) _
  have h0 : Has wa (w.heap.size) 24 (lkC l A c) := by rw [← hwa]; exact ((Has.made _ _ _).beside _)
  have h1 : Has wa (w.heap.size + 1) 24 #[.int .i64 0, .int .i64 0, .int .i64 0, .int .i64 0, .slice none 0 0] := by rw [← hwa]; exact (has_at11 (by simp))
  have HWA := Lib.hid hwa; have HBWA := Lib.hid hbwa
  have HM := Lib.hid (fun W (hW : WsR P W A l.ws.length c l.ws) => rmay12_any l A c W hW)
  have HW0 := Lib.hid hw
  have HW := Lib.hid (hw.under hbwa)
  have HC := Lib.hid (fun W (hW : Below wa.heap.size wa W) => And.intro (h0.under hW h0.lt) (And.intro (h1.under hW h1.lt) (HW.out.under hW)))
  have HP := Lib.hid h0
  clear hwa hbwa h0 h1 hw
  have HPL := Lib.hid (fun hb W (hW : WsR P W A l.ws.length c l.ws) => rplace_any l A c t W hW hb)
  have HML := Lib.hid (fun h => may_len (l := l) h)
  have hr1 : mayL l = false → ackedL l t = l0z ∧ ackedE l t = 1 := fun h => by
    have e : ackedE l t = 1 := by unfold ackedE; rw [h]; rfl
    exact ⟨by unfold ackedL; rw [e]; rfl, e⟩
  have hr2 : mayL l = true → hasT l.ws t = false → ackedL l t = l0z ∧ ackedE l t = 4 := fun h h2 => by
    have e : ackedE l t = 4 := by unfold ackedE; rw [h, h2]; rfl
    exact ⟨by unfold ackedL; rw [e]; rfl, e⟩
  have hr3 : mayL l = true → hasT l.ws t = true → ackedL l t = { l with ws := l.ws.filter fun x => x.t != t } ∧ ackedE l t = 0 := fun h h2 => by
    have e : ackedE l t = 0 := by unfold ackedE; rw [h, h2]; rfl
    exact ⟨by unfold ackedL; rw [e]; rfl, e⟩
  have HR1 := Lib.hid hr1; have HR2 := Lib.hid hr2; have HR3 := Lib.hid hr3
  clear hr1 hr2 hr3
  generalize ackedL l t = r at *
  generalize ackedE l t = er at *
  generalize mayL l = bm at *
  generalize hasT l.ws t = bh at *
  cases bm with
  | false =>
    obtain ⟨rfl, rfl⟩ := HR1.out rfl
    clear HR1 HR2 HR3 HPL HML
    go_enter Try.func14, Try.ntmps14
    go_upto_region 1 with fail
    rw [HWA.out]
    clear HWA
    go_wp2_with (with_reducible refine wpList_load_row (o := ⟨some 9, _, _, _, _, _⟩) rfl 24 _ rfl (w.heap.size) rfl 24 (lkC l A c) (0, 0) _ (HP.out).raw11 Try.underlying24 rfl (by kernel_rfl) ?_)
    refine (HM.out _ (HW.out.under (Below.refl _ _))).mono ?_
    rintro e w1 ⟨rfl, hb1⟩
    obtain ⟨hp, hz, hw1⟩ := HC.out w1 hb1
    have HP1 := Lib.hid hp; have HZ1 := Lib.hid hz; have HW1 := Lib.hid hw1
    have HB1 := Lib.hid (HBWA.out.trans (hb1.mono HBWA.out.size))
    clear hp hz hw1 hb1 HP HC HM HBWA HW
    have HR := Lib.hid (has_row11 HZ1.out #[.int .i64 0, .int .i64 0, .int .i64 0, .int .i64 0, .slice none 0 0])
    have HBF := Lib.hid (below_row (g := w.heap.size + 1) HB1.out (by omega) #[.int .i64 0, .int .i64 0, .int .i64 0, .int .i64 0, .slice none 0 0])
    go_wp2_with (with_reducible refine wpList_store_rowTo (o := ⟨none, _, _, _, _, _⟩) rfl 24 _ _ rfl rfl (w.heap.size + 1) #[.int .i64 0, .int .i64 0, .int .i64 0, .int .i64 0, .slice none 0 0] rfl rfl 24 _ (HZ1.out).raw11 (by kernel_rfl) (by kernel_rfl) (by kernel_rfl) ?_)
    refine bodyPost_ret (results_row_tmp11 rfl _ _ (w.heap.size + 1) 24 _ _ rfl HR.out Try.underlying24 rfl (by kernel_rfl)) rfl ?_
    exact ⟨none, 0, rfl, WsR.nil _, HBF.out⟩
  | true =>
    have hn8 := HML.out rfl
    go_enter Try.func14, Try.ntmps14
    go_upto_region 1 with fail
    rw [HWA.out]
    clear HWA
    go_wp2_with (with_reducible refine wpList_load_row (o := ⟨some 9, _, _, _, _, _⟩) rfl 24 _ rfl (w.heap.size) rfl 24 (lkC l A c) (0, 0) _ (HP.out).raw11 Try.underlying24 rfl (by kernel_rfl) ?_)
    refine (HM.out _ (HW.out.under (Below.refl _ _))).mono ?_
    rintro e w1 ⟨rfl, hb1⟩
    obtain ⟨hp, hz, hw1⟩ := HC.out w1 hb1
    have HP1 := Lib.hid hp; have HZ1 := Lib.hid hz; have HW1 := Lib.hid hw1
    have HB1 := Lib.hid (HBWA.out.trans (hb1.mono HBWA.out.size))
    clear hp hz hw1 hb1 HP HC HM HBWA HW
    go_wp2_with (with_reducible refine wpList_load_row (o := ⟨some 14, _, _, _, _, _⟩) rfl 24 _ rfl (w.heap.size) rfl 24 (lkC l A c) (0, 0) _ (HP1.out).raw11 Try.underlying24 rfl (by kernel_rfl) ?_)
    refine (HPL.out (by omega) _ HW1.out).mono ?_
    rintro e w2 ⟨⟨i, rfl, hi⟩, hb1⟩
    have HP2 := Lib.hid (HP1.out.under hb1 HP1.out.lt); have HZ2 := Lib.hid (HZ1.out.under hb1 HZ1.out.lt); have HW2 := Lib.hid (HW1.out.under hb1); have HB2 := Lib.hid (HB1.out.trans (hb1.mono HB1.out.size))
    clear HP1 HZ1 HW1 HB1 hb1
    clear HPL HML
    cases bh with
    | false =>
      obtain ⟨rfl, rfl⟩ := HR2.out (by first | rfl | trivial) (by first | rfl | trivial)
      clear HR1 HR2 HR3
      have x1 : i < 0 := by have := mt hi.1 (by decide); omega
      clear hi
      have HR := Lib.hid (has_row11 HZ2.out #[.int .i64 0, .int .i64 0, .int .i64 0, .int .i64 0, .slice none 0 0])
      have HBF := Lib.hid (below_row (g := w.heap.size + 1) HB2.out (by omega) #[.int .i64 0, .int .i64 0, .int .i64 0, .int .i64 0, .slice none 0 0])
      go_wp2_with (with_reducible refine wpList_store_rowTo (o := ⟨none, _, _, _, _, _⟩) rfl 24 _ _ rfl rfl (w.heap.size + 1) #[.int .i64 0, .int .i64 0, .int .i64 0, .int .i64 0, .slice none 0 0] rfl rfl 24 _ (HZ2.out).raw11 (by kernel_rfl) (by kernel_rfl) (by kernel_rfl) ?_)
      refine bodyPost_ret (results_row_tmp11 rfl _ _ (w.heap.size + 1) 24 _ _ rfl HR.out Try.underlying24 rfl (by kernel_rfl)) rfl ?_
      exact ⟨none, 0, rfl, WsR.nil _, HBF.out⟩
    | true =>
      obtain ⟨rfl, rfl⟩ := HR3.out (by first | rfl | trivial) (by first | rfl | trivial)
      clear HR1 HR2 HR3
      have x1 : ¬ i < 0 := by have := hi.2 rfl; omega
      clear hi
      have hgl : w.heap.size + 1 < w2.heap.size := HZ2.out.lt
      have hmk : Has (w2.alloc (.cells #[.int .i64 0, .int .i64 0, .int .i64 0, .int .i64 0, .slice none 0 0] 24)) w2.heap.size 24 #[.int .i64 0, .int .i64 0, .int .i64 0, .int .i64 0, .slice none 0 0] := Has.made _ _ _
      obtain ⟨w3, hw3⟩ : ∃ w3, (w2.alloc (.cells #[.int .i64 0, .int .i64 0, .int .i64 0, .int .i64 0, .slice none 0 0] 24)).setRow w2.heap.size (lkC l A c) = w3 := ⟨_, rfl⟩
      have ho2 : Has w3 w2.heap.size 24 (lkC l A c) := by rw [← hw3]; exact has_row11 hmk _
      have hbw : Below w2.heap.size w2 w3 := by rw [← hw3]; exact below_row (g := w2.heap.size) ((Below.refl _ _).alloc (Nat.le_refl _) _) (Nat.le_refl _) _
      have HSZ_w3 := Lib.hid (show w3.heap.size = w2.heap.size + 1 by rw [← hw3]; simp)
      have HMK := Lib.hid hmk
      have HFR := Lib.hid hw3
      clear hw3 hmk
      go_upto_region 7 with (first | (with_reducible refine wpList_load_row (o := ⟨some 19, _, _, _, _, _⟩) rfl 24 _ rfl (w.heap.size) rfl 24 (lkC l A c) (0, 0) _ (HP2.out).raw11 Try.underlying24 rfl (by kernel_rfl) ?_) | (with_reducible refine wpList_store_rowTo (o := ⟨none, _, _, _, _, _⟩) rfl 24 _ _ rfl rfl (w2.heap.size) (lkC l A c) rfl rfl 24 _ (HMK.out).raw11 (by kernel_rfl) (by kernel_rfl) (by kernel_rfl) ?_))
      rw [HFR.out]
      clear HFR HMK
      have hpb := HP2.out.under hbw HP2.out.lt
      clear hpb
      have b4 : w3.cell? ⟨w2.heap.size, 4, none⟩ = some (.slice A l.ws.length c) := ho2.cell 4
      have z4 := ho2.thaw 4
      obtain ⟨w4, hw4⟩ : ∃ w4, w3.setCell ⟨w2.heap.size, 4, none⟩ (.slice none 0 0) = w4 := ⟨_, rfl⟩
      have ho4 : Has w4 w2.heap.size 24 #[.int .i64 l.period, .int .i64 l.most, .int .i64 l.quiet, .int .i64 l.heard, .slice none 0 0] := by rw [← hw4]; exact (ho2.stored 4 _).is11 (by kernel_rfl)
      have hb4 : Below w2.heap.size w2 w4 := by rw [← hw4]; exact hbw.setCell (p := ⟨w2.heap.size, 4, none⟩) (Nat.le_refl _) _
      have HW4 := Lib.hid hw4; have HO4 := Lib.hid ho4; have HB4 := Lib.hid hb4
      clear hw4 ho4 hb4 ho2 hbw
      go_upto_region 8 with fail
      rw [HW4.out]
      clear HW4 b4 z4 x1
      obtain ⟨n, hn⟩ : ∃ n, l.ws.length = n := ⟨_, rfl⟩
      rw [hn] at hn8
      have HN := Lib.hid hn
      have HXW : Hid (WsR P w A n c l.ws) := Lib.hid (hn ▸ HW0.out)
      have HXP : Hid (Has w2 w.heap.size 24 #[.int .i64 l.period, .int .i64 l.most, .int .i64 l.quiet, .int .i64 l.heard, .slice A n c]) := Lib.hid (hn ▸ HP2.out)
      have hm4 := (HXP.out.under HB4.out HXP.out.lt).cell 4
      have m4 : w4.cell? ⟨w.heap.size, 4, none⟩ = some (.slice A n c) := hm4
      clear hm4 HW2 HP2 HW0 hn
      go_wp2
      clear m4
      go_loopg [8] n (fun kk v wl => ∃ (j k : Nat) (A2 : Option Addr) (c2 : Nat), j ≤ n ∧ n - j ≤ kk ∧ k ≤ j ∧ v = .int .i64 j ∧ Has wl w2.heap.size 24 #[.int .i64 l.period, .int .i64 l.most, .int .i64 l.quiet, .int .i64 l.heard, .slice A2 k c2] ∧ OwW P w2.heap.size w wl A2 k c2 ((l.ws.take j).filter fun x => x.t != t) ∧ Below w2.heap.size w2 wl)
      case atStart => exact ⟨0, 0, none, 0, by omega, by omega, by omega, rfl, HO4.out, by simpa using OwW.nil _ _ _, HB4.out⟩
      case round =>
        obtain ⟨j, k, A2, c2, hj, hjk, hkj, rfl, hs, ho, hbl⟩ := hrel
        have HS := Lib.hid hs; have HO := Lib.hid ho; have HBL := Lib.hid hbl
        have e4 : wr.cell? ⟨w.heap.size, 4, none⟩ = some (.slice A n c) := (HXP.out.under hbl HXP.out.lt).cell 4
        clear hs ho hbl HO4 HB4
        by_cases hlt : j < n
        rotate_left
        · obtain rfl : j = n := by omega
          have hz := HZ2.out.under HBL.out HZ2.out.lt
          have x1 : ¬ (j : Int) < j := by omega
          have HZ5 := Lib.hid hz
          have HR := Lib.hid (has_row11 hz #[.int .i64 l.period, .int .i64 l.most, .int .i64 l.quiet, .int .i64 l.heard, .slice A2 k c2])
          have hbf := below_row (g := w.heap.size + 1) (HB2.out.trans (HBL.out.mono HB2.out.size)) (by omega) #[.int .i64 l.period, .int .i64 l.most, .int .i64 l.quiet, .int .i64 l.heard, .slice A2 k c2]
          have hob := HO.out.keep (only_row11 wr (w.heap.size + 1) #[.int .i64 l.period, .int .i64 l.most, .int .i64 l.quiet, .int .i64 l.heard, .slice A2 k c2]) hz (by decide)
          have hta : l.ws.take j = l.ws := List.take_of_length_le (by rw [HN.out]; exact Nat.le_refl _)
          rw [hta] at hob
          have hsd := hob.done hbf (by omega)
          have HSD := Lib.hid hsd; have HBF := Lib.hid hbf; have HLN := Lib.hid hsd.len
          clear hz hbf hob hta hsd HXW HXP HO HBL HB2 HZ2
          go_wp2_with (first | (with_reducible refine wpList_load_row (o := ⟨some 46, _, _, _, _, _⟩) rfl 24 _ rfl (w2.heap.size) rfl 24 #[.int .i64 l.period, .int .i64 l.most, .int .i64 l.quiet, .int .i64 l.heard, .slice A2 k c2] (0, 0) _ (HS.out).raw11 Try.underlying24 rfl (by kernel_rfl) ?_) | (with_reducible refine wpList_store_rowTo (o := ⟨none, _, _, _, _, _⟩) rfl 24 _ _ rfl rfl (w.heap.size + 1) #[.int .i64 l.period, .int .i64 l.most, .int .i64 l.quiet, .int .i64 l.heard, .slice A2 k c2] rfl rfl 24 _ (HZ5.out).raw11 (by kernel_rfl) (by kernel_rfl) (by kernel_rfl) ?_))
          refine bodyPost_ret (results_row_tmp11 rfl _ _ (w.heap.size + 1) 24 _ _ rfl HR.out Try.underlying24 rfl (by kernel_rfl)) rfl ?_
          obtain rfl := HLN.out
          exact ⟨A2, c2, rfl, HSD.out, HBF.out⟩
        obtain ⟨x, hx⟩ : ∃ x, l.ws[j]? = some x := ⟨_, List.getElem?_eq_getElem (by rw [HN.out]; exact hlt)⟩
        obtain ⟨bk, off, v, rfl, hbk, hbody, d0, d1, d2, d3⟩ := HXW.out.body (HB2.out.trans (HBL.out.mono HB2.out.size)) hx
        have hst := filter_step12 (fun x => x.t != t) l.ws hx
        have HST := Lib.hid hst
        obtain ⟨T, due, tries, body⟩ := x
        dsimp only at d0 d1 d2 d3 hbody
        have HBY := Lib.hid hbody
        have y0 : (0 : Int) ≤ j := by omega
        have y1 : (j : Int) < n := by omega
        clear hx hst hbody
        by_cases hT : T = t
        · have ht1 : (T != t) = false := by simp [hT]
          have hst : (l.ws.take (j + 1)).filter (fun x => x.t != t) = (l.ws.take j).filter fun x => x.t != t := by rw [HST.out]; simp [hT]
          have HST2 := Lib.hid hst
          clear hT hst HST d1 d2 d3
          go_wp2
          go_roundg (gk - 1)
          case measure => omega
          case rel => exact ⟨j + 1, k, A2, c2, by omega, by omega, by omega, by go_num, HS.out, by rw [HST2.out]; exact HO.out, HBL.out⟩
        have ht1 : (T != t) = true := by simp [hT]
        have hst : (l.ws.take (j + 1)).filter (fun x => x.t != t) = (l.ws.take j).filter (fun x => x.t != t) ++ [⟨T, due, tries, body⟩] := by rw [HST.out]; simp [hT]
        have HST2 := Lib.hid hst
        clear hT hst HST
        obtain ⟨l2, hl2, hk2, ho2, hp2⟩ := HO.out
        have hpw := (pushW (⟨T, due, tries, body⟩, v) HBY.out ho2 HBL.out.size (by omega)).drew
        dsimp only at hpw
        obtain ⟨hN, hO, hC, h1, hBD⟩ := hpw
        have HL2 := Lib.hid hl2; have HK2 := Lib.hid hk2; have HP2 := Lib.hid hp2
        have hg2 : Has (wr.alloc (.cells #[.int .i64 T, .int .i64 due, .int .i64 tries, v] 48)).drew w2.heap.size 24 #[.int .i64 l.period, .int .i64 l.most, .int .i64 l.quiet, .int .i64 l.heard, .slice A2 k c2] := (HS.out.beside _).draw
        have HG2 := Lib.hid hg2
        have hbd : Below w2.heap.size w2 (wr.alloc (.cells #[.int .i64 T, .int .i64 due, .int .i64 tries, v] 48)).drew := below_dr11 (HBL.out.alloc HBL.out.size _)
        have HBDW := Lib.hid hbd
        have s4 : wr.cell? ⟨w2.heap.size, 4, none⟩ = some (.slice A2 k c2) := HS.out.cell 4
        have t4 : (wr.alloc (.cells #[.int .i64 T, .int .i64 due, .int .i64 tries, v] 48)).drew.cell? ⟨w2.heap.size, 4, none⟩ = some (.slice A2 k c2) := hg2.cell 4
        clear hl2 hk2 ho2 hp2 hg2 hbd HO
        go_upto_region 12 with fail
        go_region_law (first
          | (refine step_push (o := ⟨some 44, _, _, _, _, _⟩) rfl (.tmp 37) (.tmp 43) 22 rfl w2.heap.size 48 (.agg #[.int .i64 0, .int .i64 0, .int .i64 0, .slice none 0 0]) 4 48 Try.underlying22 info_wait rfl (by decide) A2 k c2 (cellsW l2) rfl hO ⟨wr.heap.size, 0, none⟩ 1 1 (wtC (⟨T, due, tries, body⟩, v)) rfl hN hC h1 hBD ?_; intro A4 c4 wE ho4 hg4; have hmE := HG2.out.grow hg4.out (fun e => own_apart hO.out HG2.out (by decide) e.symm); have r4 : wE.cell? ⟨w2.heap.size, 4, none⟩ = some (.slice A2 k c2) := hmE.cell 4; have f4 : wE.frozen? ⟨w2.heap.size, 4, none⟩ = false := hmE.thaw 4))
        all_goals
          have hbE := below_own HBDW.out HBDW.out.size hO.out (Nat.le_refl _) rfl hg4.out
          have hgF : wE.grownBy (wE.setCell ⟨w2.heap.size, 4, none⟩ (.slice A4 (k + 1) c4)) (some w2.heap.size) := only_store (only_refl _ _) rfl _
          have hoF := (OwW.snoc (x := ⟨T, due, tries, body⟩) HL2.out HK2.out HP2.out HBY.out rfl ho4.out).keep hgF hmE (by decide)
          have hsF := (hmE.stored 4 (.slice A4 (k + 1) c4))
          have hbF := hbE.setCell (p := ⟨w2.heap.size, 4, none⟩) (Nat.le_refl _) (.slice A4 (k + 1) c4)
          have HOF := Lib.hid hoF; have HSF := Lib.hid hsF; have HBF := Lib.hid hbF
          clear hbE hgF hoF hsF hbF hmE ho4 hg4 hN hO hC h1 hBD HG2 HBDW d0 d1 d2 d3 e4 s4 t4
          go_wp2
          go_roundg (gk - 1)
          case measure => omega
          case rel => exact ⟨j + 1, k + 1, A4, c4, by omega, by omega, by omega, by go_num, HSF.out, by rw [HST2.out]; exact HOF.out, HBF.out⟩
end Go.Proofs.Ytbohoejikihnfaa
