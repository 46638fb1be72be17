/-
  package link as landed: Tick.
-/
import Derived.Test.YtbohoejikihnfaaLkOL

import Derived.Test.YtbohoejikihnfaaLkRefE

import Derived.Test.YtbohoejikihnfaaLkSame

import Derived.Test.YtbohoejikihnfaaPush2

namespace Go.Proofs.Ytbohoejikihnfaa

open Go.RowKit

open Go.Great

theorem cellsW_set2 {l : List (W0 × Value)} {j : Nat} {x : W0} {v : Value} (h : l[j]? = some (x, v)) (a b : Int) : ((cellsW l).set (j * 4 + 2) (.int .i64 a)).set (j * 4 + 1) (.int .i64 b) = cellsW (l.set j ({ x with tries := a, due := b }, v)) := by
  induction l generalizing j with
  | nil => simp at h
  | cons y r ih =>
    show ((wtC y ++ cellsW r).set (j * 4 + 2) _).set (j * 4 + 1) _ = _
    cases j with
    | zero =>
      simp only [List.getElem?_cons_zero, Option.some.injEq] at h
      subst h
      rfl
    | succ i =>
      simp only [List.getElem?_cons_succ] at h
      rw [List.set_append, if_neg (by show ¬ (i + 1) * 4 + 2 < 4; omega), List.set_append, if_neg (by show ¬ (i + 1) * 4 + 1 < 4; omega)]
      show wtC y ++ ((cellsW r).set ((i + 1) * 4 + 2 - 4) _).set ((i + 1) * 4 + 1 - 4) _ = wtC y ++ cellsW (r.set i ({ x with tries := a, due := b }, v))
      rw [show (i + 1) * 4 + 2 - 4 = i * 4 + 2 by omega, show (i + 1) * 4 + 1 - 4 = i * 4 + 1 by omega, ih h]
theorem tick_at12 (F : W0 → W0) {ws : List W0} {j : Nat} {x : W0} (hx : ws[j]? = some x) : ((ws.take j).map F ++ ws.drop j)[j]? = some x := by
  have hj := (List.getElem?_eq_some_iff.1 hx).1
  rw [List.getElem?_append_right (by simp; omega)]
  simp [Nat.min_eq_left (Nat.le_of_lt hj)]
  exact hx
theorem tick_set12 (F : W0 → W0) {ws : List W0} {j : Nat} {x : W0} (hx : ws[j]? = some x) : ((ws.take j).map F ++ ws.drop j).set j (F x) = (ws.take (j + 1)).map F ++ ws.drop (j + 1) := by
  have hj := (List.getElem?_eq_some_iff.1 hx).1
  have hl : ((ws.take j).map F).length = j := by simp; omega
  rw [map_step12 F hx, drop_step12 hx, List.set_append, if_neg (by omega), hl, Nat.sub_self]
  simp
theorem tick_same12 (F : W0 → W0) {ws : List W0} {j : Nat} {x : W0} (hx : ws[j]? = some x) (hF : F x = x) : (ws.take j).map F ++ ws.drop j = (ws.take (j + 1)).map F ++ ws.drop (j + 1) := by
  rw [map_step12 F hx, drop_step12 hx, hF]
  simp
theorem BodyR.over {P : Nat → Prop} {W W' : World} {v : Value} {xs : List Nat} {row : Option Nat} (h : BodyR P W v xs) (hg : W.grownBy W' row) (hn : ∀ b, P b → row ≠ some b) : BodyR P W' v xs := h.grownO hg hn

set_option maxRecDepth 100000 in
set_option maxHeartbeats 8000000 in
theorem olk_tick {P : Nat → Prop} (l : L0) (A : Option Addr) (c : Nat) (now : Int) (w : World) (hw : WsR P w A l.ws.length c l.ws) (hL : lightL l = true) :
    Calls Try.prog 17 #[.agg (lkC l A c), .int .i64 now] w (TickPost P l now w) := by
  unfold TickPost
  obtain ⟨wa, hwa⟩ : ∃ wa, (w.alloc (.cells (lkC l A c) 24)).alloc (.cells #[.int .i64 0, .int .i64 0, .int .i64 0, .int .i64 0, .slice none 0 0] 24) = wa := ⟨_, rfl⟩
  have hbwa : Below w.heap.size w wa := by rw [← hwa]; exact ((Below.refl _ _).alloc (Nat.le_refl _) _).alloc (by simp) _
  have h0 : Has wa (w.heap.size) 24 (lkC l A c) := by rw [← hwa]; exact ((Has.made _ _ _).beside _)
  have h1 : Has wa (w.heap.size + 1) 24 #[.int .i64 0, .int .i64 0, .int .i64 0, .int .i64 0, .slice none 0 0] := by rw [← hwa]; exact (has_at11 (by simp))
  have HWA := Lib.hid hwa; have HBWA := Lib.hid hbwa
  have HL := Lib.hid (light_nums hL)
  have hlow := hw.low
  have HM := Lib.hid (fun W (hW : WsR (fun b => P b ∧ b < w.heap.size) W A l.ws.length c l.ws) => olk_may l A c W hW hL)
  have HCL := Lib.hid (fun W (hW : WsR (fun b => P b ∧ b < w.heap.size) W A l.ws.length c l.ws) => oclone_any l A c W hW (by have := HL.out.1; omega) HL.out.2)
  have HW0 := Lib.hid hlow
  have HW := Lib.hid (hlow.under hbwa)
  have HC := Lib.hid (fun W (hW : Below wa.heap.size wa W) => And.intro (h0.under hW h0.lt) (And.intro (h1.under hW h1.lt) (HW.out.under hW)))
  have HP := Lib.hid h0
  clear hwa hbwa h0 h1 hw hlow hL
  have HL00 := HL
  clear HL
  have HT := Lib.hid (fun W => oltime_any now W)
  have HTB := Lib.hid (fun h => tick_bounds (l := l) (now := now) h)
  have hr1 : (mayL l && isT now) = false → tickL l now = l0z ∧ tickA l now = [] ∧ tickLost l now = false ∧ tickE l now = 1 := fun h => by
    refine ⟨by unfold tickL; rw [h]; rfl, by unfold tickA; rw [h]; rfl, by unfold tickLost; rw [h]; rfl, by unfold tickE; rw [h]; rfl⟩
  have hr2 : (mayL l && isT now) = true → lostB l now = true → tickL l now = l ∧ tickA l now = [] ∧ tickLost l now = true ∧ tickE l now = 0 := fun h h2 => by
    refine ⟨by unfold tickL; rw [h, h2]; rfl, by unfold tickA; rw [h, h2]; rfl, by unfold tickLost; rw [h, h2]; rfl, by unfold tickE; rw [h]; rfl⟩
  have hr3 : (mayL l && isT now) = true → lostB l now = false → tickL l now = { l with ws := l.ws.map (tellW l now) } ∧ tickA l now = (l.ws.filter fun x => decide (x.due ≤ now)).map (·.body) ∧ tickLost l now = false ∧ tickE l now = 0 := fun h h2 => by
    refine ⟨by unfold tickL; rw [h, h2]; rfl, by unfold tickA; rw [h, h2]; rfl, by unfold tickLost; rw [h, h2]; rfl, by unfold tickE; rw [h]; rfl⟩
  have HR1 := Lib.hid hr1; have HR2 := Lib.hid hr2; have HR3 := Lib.hid hr3
  clear hr1 hr2 hr3
  generalize tickL l now = r at *
  generalize tickA l now = ra at *
  generalize tickLost l now = rl at *
  generalize tickE l now = re at *
  generalize mayL l = bm at *
  generalize isT now = bt at *
  cases bm with
  | false =>
    obtain ⟨rfl, rfl, rfl, rfl⟩ := HR1.out rfl
    clear HR1 HR2 HR3 HTB
    go_enter Try.func17, Try.ntmps17
    go_upto_region 1 with fail
    rw [HWA.out]
    clear HWA
    go_wp2_with (with_reducible refine wpList_load_row (o := ⟨some 11, _, _, _, _, _⟩) rfl 24 _ rfl (w.heap.size) rfl 24 (lkC l A c) (0, 0) _ (HP.out).raw11 Try.underlying24 rfl (by kernel_rfl) ?_)
    refine (HM.out _ (HW.out.under (Below.refl _ _))).mono ?_
    rintro e w1 ⟨rfl, hb1⟩
    obtain ⟨hp, hz, hw1⟩ := HC.out w1 hb1
    have HP1 := Lib.hid hp; have HZ1 := Lib.hid hz; have HW1 := Lib.hid hw1
    have HB1 := Lib.hid (HBWA.out.trans (hb1.mono HBWA.out.size))
    clear hp hz hw1 hb1 HP HC HM HBWA HW
    have HR := Lib.hid (has_row11 HZ1.out #[.int .i64 0, .int .i64 0, .int .i64 0, .int .i64 0, .slice none 0 0])
    have HBF := Lib.hid (below_row (g := w.heap.size + 1) HB1.out (by omega) #[.int .i64 0, .int .i64 0, .int .i64 0, .int .i64 0, .slice none 0 0])
    go_wp2_with (with_reducible refine wpList_store_rowTo (o := ⟨none, _, _, _, _, _⟩) rfl 24 _ _ rfl rfl (w.heap.size + 1) #[.int .i64 0, .int .i64 0, .int .i64 0, .int .i64 0, .slice none 0 0] rfl rfl 24 _ (HZ1.out).raw11 (by kernel_rfl) (by kernel_rfl) (by kernel_rfl) ?_)
    refine bodyPost_ret (results_rttt11 rfl _ _ (w.heap.size + 1) 24 _ _ rfl HR.out Try.underlying24 rfl (by kernel_rfl)) rfl ?_
    exact ⟨none, 0, none, 0, rfl, WsR.nil _, LsR.nil _, HBF.out⟩
  | true =>
  cases bt with
  | false =>
    obtain ⟨rfl, rfl, rfl, rfl⟩ := HR1.out rfl
    clear HR1 HR2 HR3 HTB
    go_enter Try.func17, Try.ntmps17
    go_upto_region 1 with fail
    rw [HWA.out]
    clear HWA
    go_wp2_with (with_reducible refine wpList_load_row (o := ⟨some 11, _, _, _, _, _⟩) rfl 24 _ rfl (w.heap.size) rfl 24 (lkC l A c) (0, 0) _ (HP.out).raw11 Try.underlying24 rfl (by kernel_rfl) ?_)
    refine (HM.out _ (HW.out.under (Below.refl _ _))).mono ?_
    rintro e w1 ⟨rfl, hb1⟩
    obtain ⟨hp, hz, hw1⟩ := HC.out w1 hb1
    have HP1 := Lib.hid hp; have HZ1 := Lib.hid hz; have HW1 := Lib.hid hw1
    have HB1 := Lib.hid (HBWA.out.trans (hb1.mono HBWA.out.size))
    clear hp hz hw1 hb1 HP HC HM HBWA HW
    go_wp2_with fail
    refine (HT.out _).mono ?_
    rintro e w' ⟨rfl, rfl⟩
    have HR := Lib.hid (has_row11 HZ1.out #[.int .i64 0, .int .i64 0, .int .i64 0, .int .i64 0, .slice none 0 0])
    have HBF := Lib.hid (below_row (g := w.heap.size + 1) HB1.out (by omega) #[.int .i64 0, .int .i64 0, .int .i64 0, .int .i64 0, .slice none 0 0])
    go_wp2_with (with_reducible refine wpList_store_rowTo (o := ⟨none, _, _, _, _, _⟩) rfl 24 _ _ rfl rfl (w.heap.size + 1) #[.int .i64 0, .int .i64 0, .int .i64 0, .int .i64 0, .slice none 0 0] rfl rfl 24 _ (HZ1.out).raw11 (by kernel_rfl) (by kernel_rfl) (by kernel_rfl) ?_)
    refine bodyPost_ret (results_rttt11 rfl _ _ (w.heap.size + 1) 24 _ _ rfl HR.out Try.underlying24 rfl (by kernel_rfl)) rfl ?_
    exact ⟨none, 0, none, 0, rfl, WsR.nil _, LsR.nil _, HBF.out⟩
  | true =>
  have htb := HTB.out rfl
  have HTB2 := Lib.hid htb
  have hn50 : l.ws.length ≤ 8 := htb.1
  clear HTB htb HR1
  have HLO := Lib.hid (fun (Q : Nat → Prop) A2 c2 W (hW : WsR Q W A2 l.ws.length c2 l.ws) => olost_any l A2 c2 now W hW (by have := HTB2.out; omega) (by have := HTB2.out; omega))
  obtain ⟨bl, hbl⟩ : ∃ bl, lostB l now = bl := ⟨_, rfl⟩
  rw [hbl] at HR2 HR3 HLO
  clear hbl
  cases bl with
  | true =>
    obtain ⟨e1, rfl, rfl, rfl⟩ := HR2.out rfl rfl
    have e2 := e1.symm
    subst e2
    clear HR2 HR3
    go_enter Try.func17, Try.ntmps17
    go_upto_region 1 with fail
    rw [HWA.out]
    clear HWA
    go_wp2_with (with_reducible refine wpList_load_row (o := ⟨some 11, _, _, _, _, _⟩) rfl 24 _ rfl (w.heap.size) rfl 24 (lkC l A c) (0, 0) _ (HP.out).raw11 Try.underlying24 rfl (by kernel_rfl) ?_)
    refine (HM.out _ (HW.out.under (Below.refl _ _))).mono ?_
    rintro e w1 ⟨rfl, hb1⟩
    obtain ⟨hp, hz, hw1⟩ := HC.out w1 hb1
    have HP1 := Lib.hid hp; have HZ1 := Lib.hid hz; have HW1 := Lib.hid hw1
    have HB1 := Lib.hid (HBWA.out.trans (hb1.mono HBWA.out.size))
    clear hp hz hw1 hb1 HP HC HM HBWA HW
    go_wp2_with fail
    refine (HT.out _).mono ?_
    rintro e w' ⟨rfl, rfl⟩
    go_wp2_with (with_reducible refine wpList_load_row (o := ⟨some 20, _, _, _, _, _⟩) rfl 24 _ rfl (w.heap.size) rfl 24 (lkC l A c) (0, 0) _ (HP1.out).raw11 Try.underlying24 rfl (by kernel_rfl) ?_)
    refine (HCL.out _ HW1.out).mono ?_
    rintro e w2 ⟨A2, c2, rfl, ho2, hb2⟩
    have hp2 := HP1.out.under hb2 HP1.out.lt
    obtain ⟨w3, hw3⟩ : ∃ w3, w2.setRow (w.heap.size) (lkC l A2 c2) = w3 := ⟨_, rfl⟩
    have hg3 : w2.grownBy w3 (some (w.heap.size)) := by rw [← hw3]; exact only_row11 _ _ _
    have hp3 : Has w3 (w.heap.size) 24 (lkC l A2 c2) := by rw [← hw3]; exact has_row11 hp2 _
    have hz3 : Has w3 (w.heap.size + 1) 24 #[.int .i64 0, .int .i64 0, .int .i64 0, .int .i64 0, .slice none 0 0] := (HZ1.out.under hb2 HZ1.out.lt).grow hg3 (by simp)
    have hb3 : Below w.heap.size w w3 := below_only (HB1.out.trans (hb2.mono HB1.out.size)) hg3 (Nat.le_trans HB1.out.size hb2.size) (Nat.le_refl _)
    have hgl : w.heap.size + 1 < w1.heap.size := HZ1.out.lt
    have hs2 := hb2.size
    have hs3 := hg3.size
    have ho3 := ho2.move hg3 (by rintro ⟨⟨_, h⟩ | ⟨h, _⟩, _⟩ <;> omega) (fun e => by have := (ho2.lt e).1; omega)
    have ho3 := (ho3.wide (fun b (hb : Nw (fun b => P b ∧ b < w.heap.size) w1 w2 b ∧ Value.ownBlock (.slice A2 l.ws.length c2) ≠ some b) => (show ((P b ∧ b < w.heap.size) ∨ (w1.heap.size ≤ b ∧ b < w3.heap.size)) ∧ Value.ownBlock (.slice A2 l.ws.length c2) ≠ some b from ⟨hb.1.imp id fun h => ⟨h.1, by omega⟩, hb.2⟩)))
    have HP3 := Lib.hid hp3; have HZ3 := Lib.hid hz3; have HO3 := Lib.hid ho3; have HB3 := Lib.hid hb3; have HW3 := Lib.hid hw3; have HG3 := Lib.hid (And.intro hgl (Nat.le_trans hs2 hs3)); have HP2 := Lib.hid hp2
    clear hp2 hw3 hg3 hp3 hz3 hb3 hgl hs2 hs3 ho3 ho2 hb2 HP1 HZ1 HW1 HB1 HCL
    go_upto_region 4 with (with_reducible refine wpList_store_rowTo (o := ⟨none, _, _, _, _, _⟩) rfl 24 _ _ rfl rfl (w.heap.size) (lkC l A2 c2) rfl rfl 24 _ (HP2.out).raw11 (by kernel_rfl) (by kernel_rfl) (by kernel_rfl) ?_)
    rw [HW3.out]
    clear HW3 HP2
    have hwl := HO3.out.toWs (Q' := fun _ => True) (fun _ _ => trivial) (fun _ _ _ => trivial)
    go_wp2_with (with_reducible refine wpList_load_row (o := ⟨some 22, _, _, _, _, _⟩) rfl 24 _ rfl (w.heap.size) rfl 24 (lkC l A2 c2) (0, 0) _ (HP3.out).raw11 Try.underlying24 rfl (by kernel_rfl) ?_)
    refine (HLO.out _ A2 c2 w3 hwl).mono ?_
    rintro e w4 ⟨rfl, hb4⟩
    have HP4 := Lib.hid (HP3.out.under hb4 HP3.out.lt); have HZ4 := Lib.hid (HZ3.out.under hb4 HZ3.out.lt); have HB4 := Lib.hid (HB3.out.trans (hb4.mono HB3.out.size))
    have hs4 := hb4.size
    have ho4 : OwW (fun b => ((P b ∧ b < w.heap.size) ∨ (w1.heap.size ≤ b ∧ b < w4.heap.size)) ∧ Value.ownBlock (.slice A2 l.ws.length c2) ≠ some b) w1.heap.size w4 w4 A2 l.ws.length c2 l.ws := by
      obtain ⟨l2, h1, h2, h3, h4⟩ := HO3.out
      exact ⟨l2, h1, h2, own_under h3 hb4 (Nat.le_refl _), fun p hp => ((h4 p hp).under hb4).wide fun b hb => ⟨hb.1.imp id fun h => ⟨h.1, by omega⟩, hb.2⟩⟩
    have HO4 := Lib.hid ho4
    have HG4 := Lib.hid (And.intro HG3.out.1 (Nat.le_trans HG3.out.2 hs4))
    clear hwl hb4 ho4 hs4 HP3 HZ3 HO3 HB3 HG3 HLO
    have hz4 := HZ4.out; have hb4 := HB4.out; have ho4 := HO4.out
    have hg5 := only_row11 w4 (w.heap.size + 1) (lkC l A2 c2)
    have hG := HG4.out
    have ho5 := ho4.move hg5 (by rintro ⟨⟨_, h⟩ | ⟨h, _⟩, _⟩ <;> omega) (fun e => by have := (ho4.lt e).1; omega)
    have hb5 := below_row (g := w.heap.size + 1) hb4 (by omega) (lkC l A2 c2)
    have hb5s : (w4.setRow (w.heap.size + 1) (lkC l A2 c2)).heap.size = w4.heap.size := by simp
    have HS := Lib.hid (ho5.toWs (Q' := Nw P w (w4.setRow (w.heap.size + 1) (lkC l A2 c2))) (fun b hb => hb.1.elim (fun h => .inl h.1) (fun h => .inr ⟨by omega, by omega⟩)) (fun b h h2 => .inr ⟨by omega, h2⟩))
    have HR := Lib.hid (has_row11 hz4 (lkC l A2 c2))
    have HZL := Lib.hid hz4; have HBF := Lib.hid hb5
    clear hg5 ho5 hb5 hb5s hG
    clear hz4 hb4 ho4 HO4
    go_wp2_with (first | (with_reducible refine wpList_load_row (o := ⟨some 25, _, _, _, _, _⟩) rfl 24 _ rfl (w.heap.size) rfl 24 (lkC l A2 c2) (0, 0) _ (HP4.out).raw11 Try.underlying24 rfl (by kernel_rfl) ?_) | (with_reducible refine wpList_store_rowTo (o := ⟨none, _, _, _, _, _⟩) rfl 24 _ _ rfl rfl (w.heap.size + 1) (lkC l A2 c2) rfl rfl 24 _ (HZL.out).raw11 (by kernel_rfl) (by kernel_rfl) (by kernel_rfl) ?_))
    refine bodyPost_ret (results_rttt11 rfl _ _ (w.heap.size + 1) 24 _ _ rfl HR.out Try.underlying24 rfl (by kernel_rfl)) rfl ?_
    exact ⟨A2, c2, none, 0, rfl, HS.out, LsR.nil _, HBF.out⟩
  | false =>
    obtain ⟨rfl, rfl, rfl, rfl⟩ := HR3.out rfl rfl
    clear HR2 HR3
    obtain ⟨rw, hrw⟩ : ∃ rw, l.ws.map (tellW l now) = rw := ⟨_, rfl⟩
    obtain ⟨rb, hrb⟩ : ∃ rb, (l.ws.filter fun x => decide (x.due ≤ now)).map (·.body) = rb := ⟨_, rfl⟩
    rw [hrw, hrb]
    have HRW := Lib.hid hrw; have HRB := Lib.hid hrb
    clear hrw hrb
    go_enter Try.func17, Try.ntmps17
    go_upto_region 1 with fail
    rw [HWA.out]
    clear HWA
    go_wp2_with (with_reducible refine wpList_load_row (o := ⟨some 11, _, _, _, _, _⟩) rfl 24 _ rfl (w.heap.size) rfl 24 (lkC l A c) (0, 0) _ (HP.out).raw11 Try.underlying24 rfl (by kernel_rfl) ?_)
    refine (HM.out _ (HW.out.under (Below.refl _ _))).mono ?_
    rintro e w1 ⟨rfl, hb1⟩
    obtain ⟨hp, hz, hw1⟩ := HC.out w1 hb1
    have HP1 := Lib.hid hp; have HZ1 := Lib.hid hz; have HW1 := Lib.hid hw1
    have HB1 := Lib.hid (HBWA.out.trans (hb1.mono HBWA.out.size))
    clear hp hz hw1 hb1 HP HC HM HBWA HW
    go_wp2_with fail
    refine (HT.out _).mono ?_
    rintro e w' ⟨rfl, rfl⟩
    go_wp2_with (with_reducible refine wpList_load_row (o := ⟨some 20, _, _, _, _, _⟩) rfl 24 _ rfl (w.heap.size) rfl 24 (lkC l A c) (0, 0) _ (HP1.out).raw11 Try.underlying24 rfl (by kernel_rfl) ?_)
    refine (HCL.out _ HW1.out).mono ?_
    rintro e w2 ⟨A2, c2, rfl, ho2, hb2⟩
    have hp2 := HP1.out.under hb2 HP1.out.lt
    obtain ⟨w3, hw3⟩ : ∃ w3, w2.setRow (w.heap.size) (lkC l A2 c2) = w3 := ⟨_, rfl⟩
    have hg3 : w2.grownBy w3 (some (w.heap.size)) := by rw [← hw3]; exact only_row11 _ _ _
    have hp3 : Has w3 (w.heap.size) 24 (lkC l A2 c2) := by rw [← hw3]; exact has_row11 hp2 _
    have hz3 : Has w3 (w.heap.size + 1) 24 #[.int .i64 0, .int .i64 0, .int .i64 0, .int .i64 0, .slice none 0 0] := (HZ1.out.under hb2 HZ1.out.lt).grow hg3 (by simp)
    have hb3 : Below w.heap.size w w3 := below_only (HB1.out.trans (hb2.mono HB1.out.size)) hg3 (Nat.le_trans HB1.out.size hb2.size) (Nat.le_refl _)
    have hgl : w.heap.size + 1 < w1.heap.size := HZ1.out.lt
    have hs2 := hb2.size
    have hs3 := hg3.size
    have ho3 := ho2.move hg3 (by rintro ⟨⟨_, h⟩ | ⟨h, _⟩, _⟩ <;> omega) (fun e => by have := (ho2.lt e).1; omega)
    have ho3 := (ho3.wide (fun b (hb : Nw (fun b => P b ∧ b < w.heap.size) w1 w2 b ∧ Value.ownBlock (.slice A2 l.ws.length c2) ≠ some b) => (show ((P b ∧ b < w.heap.size) ∨ (w1.heap.size ≤ b ∧ b < w3.heap.size)) ∧ Value.ownBlock (.slice A2 l.ws.length c2) ≠ some b from ⟨hb.1.imp id fun h => ⟨h.1, by omega⟩, hb.2⟩)))
    have HP3 := Lib.hid hp3; have HZ3 := Lib.hid hz3; have HO3 := Lib.hid ho3; have HB3 := Lib.hid hb3; have HW3 := Lib.hid hw3; have HG3 := Lib.hid (And.intro hgl (Nat.le_trans hs2 hs3)); have HP2 := Lib.hid hp2
    clear hp2 hw3 hg3 hp3 hz3 hb3 hgl hs2 hs3 ho3 ho2 hb2 HP1 HZ1 HW1 HB1 HCL
    go_upto_region 4 with (with_reducible refine wpList_store_rowTo (o := ⟨none, _, _, _, _, _⟩) rfl 24 _ _ rfl rfl (w.heap.size) (lkC l A2 c2) rfl rfl 24 _ (HP2.out).raw11 (by kernel_rfl) (by kernel_rfl) (by kernel_rfl) ?_)
    rw [HW3.out]
    clear HW3 HP2
    have hwl := HO3.out.toWs (Q' := fun _ => True) (fun _ _ => trivial) (fun _ _ _ => trivial)
    go_wp2_with (with_reducible refine wpList_load_row (o := ⟨some 22, _, _, _, _, _⟩) rfl 24 _ rfl (w.heap.size) rfl 24 (lkC l A2 c2) (0, 0) _ (HP3.out).raw11 Try.underlying24 rfl (by kernel_rfl) ?_)
    refine (HLO.out _ A2 c2 w3 hwl).mono ?_
    rintro e w4 ⟨rfl, hb4⟩
    have HP4 := Lib.hid (HP3.out.under hb4 HP3.out.lt); have HZ4 := Lib.hid (HZ3.out.under hb4 HZ3.out.lt); have HB4 := Lib.hid (HB3.out.trans (hb4.mono HB3.out.size))
    have hs4 := hb4.size
    have ho4 : OwW (fun b => ((P b ∧ b < w.heap.size) ∨ (w1.heap.size ≤ b ∧ b < w4.heap.size)) ∧ Value.ownBlock (.slice A2 l.ws.length c2) ≠ some b) w1.heap.size w4 w4 A2 l.ws.length c2 l.ws := by
      obtain ⟨l2, h1, h2, h3, h4⟩ := HO3.out
      exact ⟨l2, h1, h2, own_under h3 hb4 (Nat.le_refl _), fun p hp => ((h4 p hp).under hb4).wide fun b hb => ⟨hb.1.imp id fun h => ⟨h.1, by omega⟩, hb.2⟩⟩
    have HO4 := Lib.hid ho4
    have HG4 := Lib.hid (And.intro HG3.out.1 (Nat.le_trans HG3.out.2 hs4))
    clear hwl hb4 ho4 hs4 HP3 HZ3 HO3 HB3 HG3 HLO
    have m4 : w4.cell? ⟨w.heap.size, 4, none⟩ = some (.slice A2 l.ws.length c2) := HP4.out.cell 4
    obtain ⟨l1, hl1, hn1, ho1, hp1⟩ := HO4.out
    have HL1 : Hid (l1.map (·.1) = (l.ws.take 0).map (tellW l now) ++ l.ws.drop 0) := Lib.hid (by simpa using hl1)
    have HN1 := Lib.hid hn1; have HO1 := Lib.hid ho1
    have HP1 : Hid (∀ p ∈ l1, BodyR (fun b => ((P b ∧ b < w.heap.size) ∨ (w1.heap.size ≤ b ∧ b < w4.heap.size)) ∧ Value.ownBlock (.slice A2 l.ws.length c2) ≠ some b ∧ Value.ownBlock (.slice none 0 0) ≠ some b) w4 p.2 p.1.body) := Lib.hid (fun p hp => (hp1 p hp).wide fun b hb => ⟨hb.1, hb.2, by simp [Value.ownBlock]⟩)
    clear hl1 hn1 ho1 hp1 HO4
    go_upto_region 7 with fail
    go_wp2
    clear m4
    go_loopg [8, 29] l.ws.length (fun kk v8 v29 wl => ∃ (j k : Nat) (l2 : List (W0 × Value)) (lb : List (List Nat × Value)) (B : Option Addr) (d : Nat), j ≤ l.ws.length ∧ l.ws.length - j ≤ kk ∧ k ≤ j ∧ v29 = .int .i64 j ∧ v8 = .slice B k d ∧ Hid (l2.map (·.1) = (l.ws.take j).map (tellW l now) ++ l.ws.drop j) ∧ Hid (l2.length = l.ws.length) ∧ Hid (wl.ownsRow w1.heap.size 48 4 (.slice A2 l.ws.length c2) l.ws.length (cellsW l2)) ∧ Hid (lb.map (·.1) = ((l.ws.take j).filter fun x => decide (x.due ≤ now)).map (·.body)) ∧ Hid (lb.length = k) ∧ Hid (wl.ownsRow w1.heap.size 25 1 (.slice B k d) k (lb.map (·.2))) ∧ Hid (∀ p ∈ l2, BodyR (fun b => ((P b ∧ b < w.heap.size) ∨ (w1.heap.size ≤ b ∧ b < wl.heap.size)) ∧ Value.ownBlock (.slice A2 l.ws.length c2) ≠ some b ∧ Value.ownBlock (.slice B k d) ≠ some b) wl p.2 p.1.body) ∧ Hid (∀ p ∈ lb, BodyR (fun b => ((P b ∧ b < w.heap.size) ∨ (w1.heap.size ≤ b ∧ b < wl.heap.size)) ∧ Value.ownBlock (.slice A2 l.ws.length c2) ≠ some b ∧ Value.ownBlock (.slice B k d) ≠ some b) wl p.2 p.1) ∧ Hid (Has wl (w.heap.size) 24 (lkC l A2 c2)) ∧ Hid (Has wl (w.heap.size + 1) 24 #[.int .i64 0, .int .i64 0, .int .i64 0, .int .i64 0, .slice none 0 0]) ∧ Hid (Below w.heap.size w wl))
    case atStart => exact ⟨0, 0, l1, [], none, 0, by omega, by omega, by omega, rfl, rfl, HL1, HN1, HO1, Lib.hid (by simp), Lib.hid rfl, Lib.hid (World.ownsRow_nil _ _ _ _), HP1, Lib.hid (by simp), HP4, HZ4, HB4⟩
    case round =>
      obtain ⟨j, k, l2, lb, B, d, hj, hjk, hkj, rfl, rfl, HL, HLN, HO, HM, HMN, HOL, HPW, HPB, H0, H1, HB⟩ := hrel
      clear HL1 HN1 HO1 HP1 HP4 HZ4 HB4
      by_cases hlt : j < l.ws.length
      rotate_left
      · obtain hje : j = l.ws.length := by omega
        have y1 : ¬ (j : Int) < l.ws.length := by omega
        have hta : l.ws.take j = l.ws := by rw [hje]; exact List.take_length
        have hdr : l.ws.drop j = [] := by rw [hje]; exact List.drop_length
        have hl2 := HL.out; have hm := HM.out
        rw [hta, hdr, List.append_nil, HRW.out] at hl2
        rw [hta, HRB.out] at hm
        obtain ⟨wE, hwE⟩ : ∃ wE, wr.setRow (w.heap.size + 1) (lkC l A2 c2) = wE := ⟨_, rfl⟩
        have HWE := Lib.hid hwE
        have hgE : wr.grownBy wE (some (w.heap.size + 1)) := by rw [← hwE]; exact only_row11 _ _ _
        have hG := HG4.out
        have hsE := hgE.size
        have HR := Lib.hid (show Has wE (w.heap.size + 1) 24 (lkC l A2 c2) from by rw [← hwE]; exact has_row11 H1.out _)
        have HBF := Lib.hid (below_only HB.out hgE HB.out.size (by omega))
        have HLR : Hid (rw.length = l.ws.length ∧ rb.length = k) := Lib.hid ⟨by rw [← HRW.out, List.length_map], by rw [← hm, List.length_map, HMN.out]⟩
        have hgm1 : ∀ v : Value, (∀ g, v.ownBlock = some g → w1.heap.size ≤ g) → v.ownBlock ≠ some (w.heap.size + 1) := fun v h e => by have := h _ e; omega
        have hoW := own_keep HO.out hgE (hgm1 _ fun g e => (HO.out.lt g e).1)
        have hoL := own_keep HOL.out hgE (hgm1 _ fun g e => (HOL.out.lt g e).1)
        have HS : Hid (WsR (Nw P w wE) wE A2 l.ws.length c2 rw) := Lib.hid ⟨l2, hl2, HLN.out, ⟨Sl.of_own hoW, fun ad ha _ => .inr ⟨by have := (own_block12 hoW ha).1; omega, (own_block12 hoW ha).2⟩⟩, fun p hp => ((HPW.out p hp).grown hgE (by rintro ⟨⟨_, h⟩ | ⟨h, _⟩, _⟩ <;> omega)).wide fun b hb => hb.1.imp (fun h => h.1) fun h => ⟨by omega, by omega⟩⟩
        have HSL : Hid (LsR (Nw P w wE) wE B k d rb) := Lib.hid ⟨lb, hm, HMN.out, ⟨Sl.of_own hoL, fun ad ha _ => .inr ⟨by have := (own_block12 hoL ha).1; omega, (own_block12 hoL ha).2⟩⟩, fun p hp => ((HPB.out p hp).grown hgE (by rintro ⟨⟨_, h⟩ | ⟨h, _⟩, _⟩ <;> omega)).wide fun b hb => hb.1.imp (fun h => h.1) fun h => ⟨by omega, by omega⟩⟩
        clear hta hdr hl2 hm hwE hgE hgm1 hoW hoL hsE hG HL HLN HO HM HMN HOL HPW HPB HB
        go_wp2_with (first | (with_reducible refine wpList_load_row (o := ⟨some 62, _, _, _, _, _⟩) rfl 24 _ rfl (w.heap.size) rfl 24 (lkC l A2 c2) (0, 0) _ (H0.out).raw11 Try.underlying24 rfl (by kernel_rfl) ?_) | (with_reducible refine wpList_store_rowTo (o := ⟨none, _, _, _, _, _⟩) rfl 24 _ _ rfl rfl (w.heap.size + 1) (lkC l A2 c2) rfl rfl 24 _ (H1.out).raw11 (by kernel_rfl) (by kernel_rfl) (by kernel_rfl) ?_))
        rw [HWE.out]
        refine bodyPost_ret (results_rttt11 rfl _ _ (w.heap.size + 1) 24 _ _ rfl HR.out Try.underlying24 rfl (by kernel_rfl)) rfl ?_
        exact ⟨A2, c2, B, d, by unfold lkC; dsimp only; rw [HLR.out.1, HLR.out.2]; rfl, by rw [HLR.out.1]; exact HS.out, by rw [HLR.out.2]; exact HSL.out, HBF.out⟩
      obtain ⟨x, hx⟩ : ∃ x, l.ws[j]? = some x := ⟨_, List.getElem?_eq_getElem hlt⟩
      have hjl : j < l2.length := by rw [HLN.out]; exact hlt
      obtain ⟨v0, hv0⟩ : ∃ v0, l2[j]? = some (x, v0) := by
        have h2 := tick_at12 (tellW l now) hx
        rw [← HL.out, List.getElem?_map, List.getElem?_eq_getElem hjl] at h2
        simp only [Option.map_some, Option.some.injEq] at h2
        exact ⟨l2[j].2, by rw [List.getElem?_eq_getElem hjl, ← h2]⟩
      have HLJ := Lib.hid hv0
      have HX := Lib.hid hx
      have hbody := HPW.out _ (List.mem_of_getElem? hv0)
      dsimp only at hbody
      have HBD0 := Lib.hid hbody
      obtain ⟨BA, bc, hv0e, _, h8b, _⟩ := hbody
      subst hv0e
      have H8 := Lib.hid h8b
      obtain ⟨gr, rfl⟩ : ∃ gr, A2 = some ⟨gr, 0, none⟩ := by
        cases A2 with
        | none =>
          exfalso
          rcases HO.out.2 with ⟨_, h0⟩ | ⟨_, _, _, h', _⟩
          · omega
          · injection h' with h1; cases h1
        | some ad =>
          obtain ⟨b, _, e, _⟩ := own_has12 HO.out
          exact ⟨b, by rw [e]⟩
      have hlj : l2[j] = (x, .slice BA x.body.length bc) := (List.getElem?_eq_some_iff.1 hv0).2
      have hcj : ∀ k, k < 4 → ∀ u, (wtC (x, .slice BA x.body.length bc))[k]? = some u → wr.cell? ⟨gr, j * 4 + k, none⟩ = some u := fun k hk u hu => by
        rw [HO.out.cellAt (j * 4 + k) (by omega), cellsW_at hjl hk, hlj]
        exact hu
      have d0 : wr.cell? ⟨gr, j * 4, none⟩ = some (.int .i64 x.t) := hcj 0 (by omega) _ rfl
      have d1 : wr.cell? ⟨gr, j * 4 + 1, none⟩ = some (.int .i64 x.due) := hcj 1 (by omega) _ rfl
      have d2 : wr.cell? ⟨gr, j * 4 + 2, none⟩ = some (.int .i64 x.tries) := hcj 2 (by omega) _ rfl
      have d3 : wr.cell? ⟨gr, j * 4 + 3, none⟩ = some (.slice BA x.body.length bc) := hcj 3 (by omega) _ rfl
      have y0 : (0 : Int) ≤ j := by omega
      have y1 : (j : Int) < l.ws.length := by omega
      obtain ⟨wx, hwx⟩ : ∃ wx, wr.alloc (.cells #[.int .i64 x.t, .int .i64 x.due, .int .i64 x.tries, .slice BA x.body.length bc] 48) = wx := ⟨_, rfl⟩
      have hx5 : Has wx wr.heap.size 48 #[.int .i64 x.t, .int .i64 x.due, .int .i64 x.tries, .slice BA x.body.length bc] := by rw [← hwx]; exact Has.made _ _ _
      have hbx : Below wr.heap.size wr wx := by rw [← hwx]; exact (Below.refl _ _).alloc (Nat.le_refl _) _
      have HWX := Lib.hid hwx
      have HX5 := Lib.hid hx5
      have HBX := Lib.hid hbx
      have k0 : wx.cell? ⟨wr.heap.size, 0, none⟩ = some (.int .i64 x.t) := hx5.cell 0
      have k1 : wx.cell? ⟨wr.heap.size, 1, none⟩ = some (.int .i64 x.due) := hx5.cell 1
      have k2 : wx.cell? ⟨wr.heap.size, 2, none⟩ = some (.int .i64 x.tries) := hx5.cell 2
      have k3 : wx.cell? ⟨wr.heap.size, 3, none⟩ = some (.slice BA x.body.length bc) := hx5.cell 3
      have HDU := Lib.hid (oldue_any x (.slice BA x.body.length bc) now wx)
      unfold wtA at HDU
      clear hwx hx5 hbx hv0 hcj hlj hjl h8b hx
      go_upto_region 10 with fail
      rw [HWX.out]
      clear HWX d0 d1 d2 d3
      go_wp2_with fail
      refine HDU.out.mono ?_
      rintro e wy ⟨rfl, hby⟩
      have HBY := Lib.hid (HBX.out.trans (hby.mono HBX.out.size))
      have HXY := Lib.hid (HX5.out.under hby HX5.out.lt)
      have hysz := HBY.out.size
      clear hby HBX HX5 HDU k0 k1 k2 k3
      by_cases hdue : x.due ≤ now
      rotate_left
      · have hdd : decide (x.due ≤ now) = false := decide_eq_false hdue
        have htl : tellW l now x = x := by unfold tellW; rw [if_neg hdue]
        have HL' := Lib.hid (HL.out.trans (tick_same12 (tellW l now) HX.out htl))
        have HM' : Hid (lb.map (·.1) = ((l.ws.take (j + 1)).filter fun x => decide (x.due ≤ now)).map (·.body)) := Lib.hid (by rw [HM.out, filter_step12 (fun x => decide (x.due ≤ now)) l.ws HX.out, if_neg (by rw [hdd]; decide)])
        have HO' := Lib.hid (own_under HO.out HBY.out (Nat.le_refl _)); have HOL' := Lib.hid (own_under HOL.out HBY.out (Nat.le_refl _))
        have HPW' : Hid (∀ p ∈ l2, BodyR (fun b => ((P b ∧ b < w.heap.size) ∨ (w1.heap.size ≤ b ∧ b < wy.heap.size)) ∧ Value.ownBlock (.slice (some ⟨gr, 0, none⟩) l.ws.length c2) ≠ some b ∧ Value.ownBlock (.slice B k d) ≠ some b) wy p.2 p.1.body) := Lib.hid fun p hp => ((HPW.out p hp).under HBY.out).wide fun b hb => ⟨hb.1.imp id fun h => ⟨h.1, by omega⟩, hb.2⟩
        have HPB' : Hid (∀ p ∈ lb, BodyR (fun b => ((P b ∧ b < w.heap.size) ∨ (w1.heap.size ≤ b ∧ b < wy.heap.size)) ∧ Value.ownBlock (.slice (some ⟨gr, 0, none⟩) l.ws.length c2) ≠ some b ∧ Value.ownBlock (.slice B k d) ≠ some b) wy p.2 p.1) := Lib.hid fun p hp => ((HPB.out p hp).under HBY.out).wide fun b hb => ⟨hb.1.imp id fun h => ⟨h.1, by omega⟩, hb.2⟩
        have H0' := Lib.hid (H0.out.under HBY.out H0.out.lt); have H1' := Lib.hid (H1.out.under HBY.out H1.out.lt); have HB' := Lib.hid (HB.out.trans (HBY.out.mono HB.out.size))
        clear HL HM HO HOL HPW HPB H0 H1 HB HBD0 HXY HLJ htl hdue
        rw [hdd]
        skip
        go_wp2
        go_roundg (gk - 1)
        case measure => omega
        case rel => exact ⟨j + 1, k, l2, lb, B, d, by omega, by omega, by omega, by go_num, rfl, HL', HLN, HO', HM', HMN, HOL', HPW', HPB', H0', H1', HB'⟩
      have hdd : decide (x.due ≤ now) = true := decide_eq_true hdue
      have htl : tellW l now x = { x with tries := x.tries + 1, due := now + l.period } := by unfold tellW; rw [if_pos hdue]
      have htb := HTB2.out
      have hxt := htb.2.2.2.2.2 x (List.mem_of_getElem? HX.out)
      have r1 : IntKind.i64.wrap (x.tries + 1) = x.tries + 1 := by rw [IntKind.wrap_i64]; omega
      have r2 : IntKind.i64.wrap (now + l.period) = now + l.period := by rw [IntKind.wrap_i64]; omega
      have r1w : wrap64 (x.tries + 1) = x.tries + 1 := IntWalk.wrap64_in _ (by omega)
      have r2w : wrap64 (now + l.period) = now + l.period := IntWalk.wrap64_in _ (by omega)
      have b1 : 0 ≤ x.tries := by omega
      have b2 : x.tries ≤ 20 := by omega
      have b3 : 0 ≤ now := by omega
      have b4 : now ≤ 4294967294 := by omega
      have b5 : 1 ≤ l.period := by omega
      have b6 : l.period ≤ 1048576 := by omega
      have hoy := own_under HO.out HBY.out (Nat.le_refl _)
      have hgrl := (HO.out.lt gr rfl).2
      have hgrb := (HO.out.lt gr rfl).1
      have hG := HG4.out
      have hcy : ∀ k, k < 4 → ∀ u, (wtC (x, .slice BA x.body.length bc))[k]? = some u → wy.cell? ⟨gr, j * 4 + k, none⟩ = some u := fun k hk u hu => by
        have hjl : j < l2.length := by rw [HLN.out]; exact hlt
        rw [hoy.cellAt (j * 4 + k) (by omega), cellsW_at hjl hk, (List.getElem?_eq_some_iff.1 HLJ.out).2]
        exact hu
      have c2y : wy.cell? ⟨gr, j * 4 + 2, none⟩ = some (.int .i64 x.tries) := hcy 2 (by omega) _ rfl
      have c2f := hoy.frozenAt (j * 4 + 2)
      have h4y : wy.cell? ⟨w.heap.size, 4, none⟩ = some (.slice (some ⟨gr, 0, none⟩) l.ws.length c2) := (H0.out.under HBY.out H0.out.lt).cell 4
      obtain ⟨wz, hwz⟩ : ∃ wz, wy.setCell ⟨gr, j * 4 + 2, none⟩ (.int .i64 (x.tries + 1)) = wz := ⟨_, rfl⟩
      have hst := hoy.stored (j * 4 + 2) (.int .i64 (x.tries + 1))
      rw [hwz] at hst
      have h0z := (H0.out.under HBY.out H0.out.lt).grow hst.2 (by simp; omega)
      have h4z : wz.cell? ⟨w.heap.size, 4, none⟩ = some (.slice (some ⟨gr, 0, none⟩) l.ws.length c2) := h0z.cell 4
      have h00z : wz.cell? ⟨w.heap.size, 0, none⟩ = some (.int .i64 l.period) := h0z.cell 0
      have hszz := hst.2.size
      have c1z : wz.cell? ⟨gr, j * 4 + 1, none⟩ = some (.int .i64 x.due) := by
        rw [hst.1.cellAt (j * 4 + 1) (by omega), List.getElem?_set_ne (by omega), ← hoy.cellAt (j * 4 + 1) (by omega)]
        exact hcy 1 (by omega) _ rfl
      have c1f := hst.1.frozenAt (j * 4 + 1)
      obtain ⟨wv, hwv⟩ : ∃ wv, wz.setCell ⟨gr, j * 4 + 1, none⟩ (.int .i64 (now + l.period)) = wv := ⟨_, rfl⟩
      have hst2 := hst.1.stored (j * 4 + 1) (.int .i64 (now + l.period))
      rw [hwv, cellsW_set2 HLJ.out, ← htl] at hst2
      have hgv : wy.grownBy wv (some gr) := only_trans hst.2 hst2.2
      have h0v := h0z.grow hst2.2 (by simp; omega)
      have h1v := ((H1.out.under HBY.out H1.out.lt).grow hst.2 (by simp; omega)).grow hst2.2 (by simp; omega)
      have hbv : Below w.heap.size w wv := below_only (HB.out.trans (HBY.out.mono HB.out.size)) hgv (Nat.le_trans HB.out.size hysz) (by omega)
      have hxv : Has wv wr.heap.size 48 _ := HXY.out.grow hgv (by simp; omega)
      have k3v : wv.cell? ⟨wr.heap.size, 3, none⟩ = some (.slice BA x.body.length bc) := hxv.cell 3
      have hne2 := own_two12 HOL.out HO.out (by decide)
      have holv := (own_under HOL.out HBY.out (Nat.le_refl _)).kept hgv hne2
      have hgvs := hgv.size
      have hpwv : ∀ p ∈ l2, BodyR (fun b => ((P b ∧ b < w.heap.size) ∨ (w1.heap.size ≤ b ∧ b < wv.heap.size)) ∧ Value.ownBlock (.slice (some ⟨gr, 0, none⟩) l.ws.length c2) ≠ some b ∧ Value.ownBlock (.slice B k d) ≠ some b) wv p.2 p.1.body := fun p hp => (((HPW.out p hp).under HBY.out).grown hgv (fun h => h.2.1 rfl)).wide fun b hb => ⟨hb.1.imp id fun h => ⟨h.1, by omega⟩, hb.2⟩
      have hpbv : ∀ p ∈ lb, BodyR (fun b => ((P b ∧ b < w.heap.size) ∨ (w1.heap.size ≤ b ∧ b < wv.heap.size)) ∧ Value.ownBlock (.slice (some ⟨gr, 0, none⟩) l.ws.length c2) ≠ some b ∧ Value.ownBlock (.slice B k d) ≠ some b) wv p.2 p.1 := fun p hp => (((HPB.out p hp).under HBY.out).grown hgv (fun h => h.2.1 rfl)).wide fun b hb => ⟨hb.1.imp id fun h => ⟨h.1, by omega⟩, hb.2⟩
      have hpx : BodyR (fun b => ((P b ∧ b < w.heap.size) ∨ (w1.heap.size ≤ b ∧ b < wv.heap.size)) ∧ Value.ownBlock (.slice (some ⟨gr, 0, none⟩) l.ws.length c2) ≠ some b ∧ Value.ownBlock (.slice B k d) ≠ some b) wv (.slice BA x.body.length bc) x.body := hpwv _ (List.mem_of_getElem? HLJ.out)
      obtain ⟨BA', bc', he', hsx, _⟩ := hpx
      injection he' with he1 he2 he3
      subst he1 he3
      have HCB := Lib.hid (oclone8_any BA x.body.length bc x.body wv hsx (by have := HL00.out.2 x (List.mem_of_getElem? HX.out); omega))
      have HOV := Lib.hid hst2.1; have HOLV := Lib.hid holv; have HPWV := Lib.hid hpwv; have HPBV := Lib.hid hpbv; have H0V := Lib.hid h0v; have H1V := Lib.hid h1v; have HBV := Lib.hid hbv; have HWZ := Lib.hid hwz; have HWV := Lib.hid hwv; have HGRB := Lib.hid (And.intro hgrb hG)
      have HVS := Lib.hid (show gr < wr.heap.size ∧ wr.heap.size ≤ wv.heap.size from ⟨hgrl, by omega⟩)
      have HTL := Lib.hid htl
      clear hst hst2 holv hpwv hpbv h0v h1v hbv hwz hwv hcy hoy h0z hgv hxv hsx he2 hgrl hgrb hG htb hxt hne2 hysz hszz hgvs htl HO HOL HPW HPB H0 H1 HB HBD0 HXY HBY hdue
      go_upto_region 12 with fail
      rw [HWZ.out]
      clear HWZ c2y c2f h4y r1 r1w
      go_upto_region 13 with fail
      rw [HWV.out]
      clear HWV c1z c1f h4z h00z r2 r2w b1 b2 b3 b4 b5 b6
      go_wp2_with fail
      refine HCB.out.mono ?_
      rintro e w6 ⟨A9, c9, rfl, ho9, hb9⟩
      have hb9 := hb9.out; have ho9 := ho9.out
      have hs6 := hb9.size
      have hol6 := own_under HOLV.out hb9 (Nat.le_refl _)
      have hbw6 : Below w1.heap.size w6 w6 := Below.refl _ _
      have hG := HGRB.out
      have hvs := HVS.out
      obtain ⟨f1, f2, f3, f4, f5, _⟩ := push_facts11 (b := 24) 25 (.slice A9 x.body.length c9) rfl hol6 hbw6 (by omega) (by omega) (by decide)
      have HO6 := Lib.hid (own_under HOV.out hb9 (Nat.le_refl _)); have H06 := Lib.hid (H0V.out.under hb9 H0V.out.lt); have H16 := Lib.hid (H1V.out.under hb9 H1V.out.lt); have HB6 := Lib.hid (HBV.out.trans (hb9.mono HBV.out.size))
      have HPW6 := Lib.hid (fun p hp => (HPWV.out p hp).under hb9); have HPB6 := Lib.hid (fun p hp => (HPBV.out p hp).under hb9)
      have HBLV := Lib.hid (fun b (e : Value.ownBlock (.slice B k d) = some b) => (HOLV.out.lt b e).2)
      have HBN := Lib.hid (BodyR.own ho9 H8.out)
      have HS6 := Lib.hid hs6
      clear hb9 ho9 hol6 hbw6 hG hvs hs6 HOV HOLV HPWV HPBV H0V H1V HBV HCB k3v
      go_wp2_with (with_reducible refine wpList_push2 (o := ⟨some 60, _, _, _, _, _⟩) rfl (.tmp 55) (.tmp 59) 35 rfl w1.heap.size 25 (.slice none 0 0) 1 24 Try.underlying35 info_u8s ?hz (by decide) B k d (lb.map (·.2)) ?hs f2 ⟨w6.heap.size, 0, none⟩ 1 1 [.slice A9 x.body.length c9] ?hx f1 f3 f4 f5 ?next)
      all_goals try rfl
      case next =>
        intro B4 d4 w7 ho7 hg7 hl7
        have hg7 := hg7.out; have hl7 := hl7.out; have hG := HGRB.out; have hvs := HVS.out; have hs6 := HS6.out
        have hba : Below w6.heap.size w6 (w6.alloc (.cells #[.slice A9 x.body.length c9] 25)) := (Below.refl _ _).alloc (Nat.le_refl _) _
        have hs7 : w6.heap.size + 1 ≤ w7.heap.size := by have := hg7.size; simpa using this
        skip
        have hl7' : Value.ownBlock (.slice B4 (k + 1) d4) = Value.ownBlock (.slice B k d) ∨ Value.ownBlock (.slice B4 (k + 1) d4) = some (w6.heap.size + 1) := by simpa using hl7
        have HOL7 : Hid (w7.ownsRow w1.heap.size 25 1 (.slice B4 (k + 1) d4) (k + 1) ((lb ++ [(x.body, Value.slice A9 x.body.length c9)]).map (·.2))) := Lib.hid (by simpa using ho7.out)
        have hne3 := own_two12 (HO6.out.alloc (.cells #[.slice A9 x.body.length c9] 25)) f2.out (by decide)
        have HO7 := Lib.hid ((HO6.out.alloc (.cells #[.slice A9 x.body.length c9] 25)).kept hg7 hne3)
        have hbl : ∀ g, Value.ownBlock (.slice B k d) = some g → w1.heap.size ≤ g := fun g e => (f2.out.lt g e).1
        have H07 := Lib.hid ((H06.out.beside (.cells #[.slice A9 x.body.length c9] 25)).grow hg7 (fun e => by have := hbl _ e.symm; omega))
        have H17 := Lib.hid ((H16.out.beside (.cells #[.slice A9 x.body.length c9] 25)).grow hg7 (fun e => by have := hbl _ e.symm; omega))
        have HB7 := Lib.hid (below_own (HB6.out.alloc HB6.out.size _) (by have := HB6.out.size; simp; omega) f2.out (by omega) rfl hg7)
        have HL7 : Hid ((l2.set j (tellW l now x, .slice BA x.body.length bc)).map (·.1) = (l.ws.take (j + 1)).map (tellW l now) ++ l.ws.drop (j + 1)) := Lib.hid (by rw [List.map_set, HL.out, ← tick_set12 (tellW l now) HX.out])
        have HN7 : Hid ((l2.set j (tellW l now x, .slice BA x.body.length bc)).length = l.ws.length) := Lib.hid (by rw [List.length_set]; exact HLN.out)
        have HM7 : Hid ((lb ++ [(x.body, Value.slice A9 x.body.length c9)]).map (·.1) = ((l.ws.take (j + 1)).filter fun x => decide (x.due ≤ now)).map (·.body)) := Lib.hid (by rw [filter_step12 (fun x => decide (x.due ≤ now)) l.ws HX.out, if_pos hdd, List.map_append, List.map_append, HM.out]; rfl)
        have HMN7 : Hid ((lb ++ [(x.body, Value.slice A9 x.body.length c9)]).length = k + 1) := Lib.hid (by rw [List.length_append, HMN.out]; rfl)
        have hmv : ∀ v ys, BodyR (fun b => ((P b ∧ b < w.heap.size) ∨ (w1.heap.size ≤ b ∧ b < wv.heap.size)) ∧ Value.ownBlock (.slice (some ⟨gr, 0, none⟩) l.ws.length c2) ≠ some b ∧ Value.ownBlock (.slice B k d) ≠ some b) w6 v ys → BodyR (fun b => ((P b ∧ b < w.heap.size) ∨ (w1.heap.size ≤ b ∧ b < w7.heap.size)) ∧ Value.ownBlock (.slice (some ⟨gr, 0, none⟩) l.ws.length c2) ≠ some b ∧ Value.ownBlock (.slice B4 (k + 1) d4) ≠ some b) w7 v ys := fun v ys h => ((h.under hba).grownO hg7 (fun b hb => hb.2.2)).wide fun b hb => ⟨hb.1.imp id fun h => ⟨h.1, by omega⟩, hb.2.1, fun e => by
          rcases hl7' with h | h
          · exact hb.2.2 (by rw [← h]; exact e)
          · rw [h] at e
            injection e with e
            rcases hb.1 with h9 | h9 <;> omega⟩
        have HPN : BodyR (fun b => ((P b ∧ b < w.heap.size) ∨ (w1.heap.size ≤ b ∧ b < w7.heap.size)) ∧ Value.ownBlock (.slice (some ⟨gr, 0, none⟩) l.ws.length c2) ≠ some b ∧ Value.ownBlock (.slice B4 (k + 1) d4) ≠ some b) w7 (.slice A9 x.body.length c9) x.body := ((HBN.out.under hba).grownO hg7 (fun b hb e => by have := (f2.out.lt b e).2; have h9 := hba.size; have := HBLV.out b e; omega)).wide fun b hb => ⟨.inr ⟨by omega, by omega⟩, fun e => by
            have e2 : gr = b := by simpa [Value.ownBlock] using e
            omega, fun e => by
            rcases hl7' with h | h
            · rw [h] at e
              have := HBLV.out b e
              omega
            · rw [h] at e
              injection e with e
              omega⟩
        have HPW7 : Hid (∀ p ∈ l2.set j (tellW l now x, .slice BA x.body.length bc), BodyR (fun b => ((P b ∧ b < w.heap.size) ∨ (w1.heap.size ≤ b ∧ b < w7.heap.size)) ∧ Value.ownBlock (.slice (some ⟨gr, 0, none⟩) l.ws.length c2) ≠ some b ∧ Value.ownBlock (.slice B4 (k + 1) d4) ≠ some b) w7 p.2 p.1.body) := Lib.hid fun p hp => by
          rcases List.mem_or_eq_of_mem_set hp with hp | rfl
          · exact hmv _ _ (HPW6.out p hp)
          · have := hmv _ _ (HPW6.out _ (List.mem_of_getElem? HLJ.out))
            rw [HTL.out]
            exact this
        have HPB7 : Hid (∀ p ∈ lb ++ [(x.body, Value.slice A9 x.body.length c9)], BodyR (fun b => ((P b ∧ b < w.heap.size) ∨ (w1.heap.size ≤ b ∧ b < w7.heap.size)) ∧ Value.ownBlock (.slice (some ⟨gr, 0, none⟩) l.ws.length c2) ≠ some b ∧ Value.ownBlock (.slice B4 (k + 1) d4) ≠ some b) w7 p.2 p.1) := Lib.hid fun p hp => by
          rcases List.mem_append.1 hp with hp | hp
          · exact hmv _ _ (HPB6.out p hp)
          · rw [List.mem_singleton] at hp; subst hp; exact HPN
        clear hmv HPN hg7 hl7 hl7' ho7 hba hne3 hbl f1 f2 f3 f4 f5 HPW6 HPB6 HBN HO6 H06 H16 HB6 HL HLJ HM
        go_wp2
        go_roundg (gk - 1)
        case measure => omega
        case rel => exact ⟨j + 1, k + 1, _, _, B4, d4, by omega, by omega, by omega, by go_num, rfl, HL7, HN7, HO7, HM7, HMN7, HOL7, HPW7, HPB7, H07, H17, HB7⟩
end Go.Proofs.Ytbohoejikihnfaa
