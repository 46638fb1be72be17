/-
  package link as landed: New, Heard, Acked.
-/
import Derived.Test.YtbohoejikihnfaaLkOI

import Derived.Test.YtbohoejikihnfaaLkOH

import Derived.Test.YtbohoejikihnfaaLkOG

import Derived.Test.YtbohoejikihnfaaLkOD

namespace Go.Proofs.Ytbohoejikihnfaa

open Go.RowKit

open Go.Great

theorem WsR.low {P : Nat → Prop} {w : World} {A : Option Addr} {n c : Nat} {ws : List W0} (h : WsR P w A n c ws) : WsR (fun b => P b ∧ b < w.heap.size) w A n c ws := by
  obtain ⟨l, h1, h2, ⟨h3, h4⟩, h5⟩ := h
  refine ⟨l, h1, h2, ⟨h3, fun ad ha h0 => ⟨h4 ad ha h0, ?_⟩⟩, fun p hp => (h5 p hp).low⟩
  have := h3.2.2 ad ha 0 _ (List.getElem?_eq_getElem (by rw [h3.1]; omega))
  have := cell_block this
  rwa [add_block11] at this
theorem OwW.lt {P : Nat → Prop} {base n c g : Nat} {w0 w : World} {A : Option Addr} {ws : List W0} (h : OwW P base w0 w A n c ws) (e : Value.ownBlock (.slice A n c) = some g) : base ≤ g ∧ g < w.heap.size := by
  obtain ⟨l, _, _, h3, _⟩ := h
  exact h3.lt g e
theorem OwW.move {Q : Nat → Prop} {base n c g : Nat} {W W' : World} {A : Option Addr} {ws : List W0} (h : OwW Q base W W A n c ws) (hg : W.grownBy W' (some g)) (hq : ¬ Q g) (hn : Value.ownBlock (.slice A n c) ≠ some g) : OwW Q base W' W' A n c ws := by
  obtain ⟨l, h1, h2, h3, h4⟩ := h
  exact ⟨l, h1, h2, own_keep h3 hg hn, fun p hp => (h4 p hp).grown hg hq⟩
theorem OwW.wide {Q Q' : Nat → Prop} {base n c : Nat} {w0 W : World} {A : Option Addr} {ws : List W0} (h : OwW Q base w0 W A n c ws) (hq : ∀ b, Q b → Q' b) : OwW Q' base w0 W A n c ws := by
  obtain ⟨l, h1, h2, h3, h4⟩ := h
  exact ⟨l, h1, h2, h3, fun p hp => (h4 p hp).wide hq⟩
theorem OwW.toWs {Q Q' : Nat → Prop} {base n c : Nat} {W : World} {A : Option Addr} {ws : List W0} (h : OwW Q base W W A n c ws) (h1 : ∀ b, Q b → Q' b) (h2 : ∀ b, base ≤ b → b < W.heap.size → Q' b) : WsR Q' W A n c ws := by
  obtain ⟨l, hl, hn, ho, hp⟩ := h
  exact ⟨l, hl, hn, ⟨Sl.of_own ho, fun ad ha _ => h2 _ (own_block12 ho ha).1 (own_block12 ho ha).2⟩, fun p h => (hp p h).wide h1⟩
theorem light_nums {l : L0} (h : lightL l = true) : l.ws.length ≤ 50 ∧ ∀ x ∈ l.ws, x.body.length ≤ 100000 := by
  unfold lightL at h
  simp only [Bool.and_eq_true, decide_eq_true_eq, List.all_eq_true] at h
  exact ⟨h.1, fun x hx => by have := h.2 x hx; omega⟩
theorem may_sort {l : L0} (h : mayL l = true) : l.ws.length ≤ 8 ∧ l.ws.Pairwise fun a b => a.t < b.t := by
  unfold mayL at h
  simp only [Bool.and_eq_true, decide_eq_true_eq] at h
  exact ⟨h.2.1, h.2.2.2⟩

set_option maxRecDepth 100000 in
set_option maxHeartbeats 8000000 in
theorem olk_new (p m q h : Int) (w : World) :
    Calls Try.prog 22 #[.int .i64 p, .int .i64 m, .int .i64 q, .int .i64 h] w fun e w' => e = .returned (.tuple #[.agg (lkC (newL p m q h) none 0), .int .i64 (newE12 p m q h)]) ∧ Below w.heap.size w w' := by
  obtain ⟨wa, hwa⟩ : ∃ wa, (w.alloc (.cells #[.int .i64 0, .int .i64 0, .int .i64 0, .int .i64 0, .slice none 0 0] 24)).alloc (.cells #[.int .i64 p, .int .i64 m, .int .i64 q, .int .i64 h, .slice none 0 0] 24) = wa := ⟨_, rfl⟩
  have hbwa : Below w.heap.size w wa := by rw [← hwa]; exact ((Below.refl _ _).alloc (Nat.le_refl _) _).alloc (by simp) _
  have h0 : Has wa (w.heap.size) 24 #[.int .i64 0, .int .i64 0, .int .i64 0, .int .i64 0, .slice none 0 0] := by rw [← hwa]; exact ((Has.made _ _ _).beside _)
  have h1 : Has wa (w.heap.size + 1) 24 #[.int .i64 p, .int .i64 m, .int .i64 q, .int .i64 h, .slice none 0 0] := by rw [← hwa]; exact (has_at11 (by simp))
  have HWA := Lib.hid hwa; have HBWA := Lib.hid hbwa
  have HM : Hid (∀ W, Calls Try.prog 20 #[.agg #[.int .i64 p, .int .i64 m, .int .i64 q, .int .i64 h, .slice none 0 0]] W fun e w' => e = .returned (.bool (mayL ⟨p, m, q, h, []⟩)) ∧ Below W.heap.size W w') := Lib.hid (fun W => olk_may ⟨p, m, q, h, []⟩ none 0 W (WsR.nil (P := fun _ => True) W) rfl)
  have HC := Lib.hid (fun W (hW : Below wa.heap.size wa W) => And.intro (h0.under hW h0.lt) (h1.under hW h1.lt))
  have HQ := Lib.hid h1
  have hs : newL p m q h = if mayL ⟨p, m, q, h, []⟩ = true then ⟨p, m, q, h, []⟩ else l0z := rfl
  have he : newE12 p m q h = if mayL ⟨p, m, q, h, []⟩ = true then 0 else 1 := rfl
  rw [hs, he]
  clear hs he hwa hbwa h0 h1
  generalize mayL ⟨p, m, q, h, []⟩ = b at *
  cases b with
  | false =>
    rw [if_neg (by decide), if_neg (by decide)]
    go_enter Try.func22, Try.ntmps22
    go_upto_region 2 with fail
    rw [HWA.out]
    go_wp2_with (with_reducible refine wpList_load_row (o := ⟨some 16, _, _, _, _, _⟩) rfl 24 _ rfl (w.heap.size + 1) rfl 24 #[.int .i64 p, .int .i64 m, .int .i64 q, .int .i64 h, .slice none 0 0] (0, 0) _ (HQ.out).raw11 Try.underlying24 rfl (by kernel_rfl) ?_)
    refine (HM.out _).mono ?_
    rintro e w1 ⟨rfl, hb1⟩
    obtain ⟨hz, hq⟩ := HC.out w1 hb1
    have HZ := Lib.hid hz; have HQ1 := Lib.hid hq
    have HR := Lib.hid (has_row11 hz #[.int .i64 0, .int .i64 0, .int .i64 0, .int .i64 0, .slice none 0 0])
    have HBF := Lib.hid (below_row (g := w.heap.size) (HBWA.out.trans (hb1.mono HBWA.out.size)) (Nat.le_refl _) #[.int .i64 0, .int .i64 0, .int .i64 0, .int .i64 0, .slice none 0 0])
    clear hz hq hb1 HC HQ HM HWA HBWA
    go_wp2_with (first | (with_reducible refine wpList_load_row (o := ⟨some 20, _, _, _, _, _⟩) rfl 24 _ rfl (w.heap.size + 1) rfl 24 #[.int .i64 p, .int .i64 m, .int .i64 q, .int .i64 h, .slice none 0 0] (0, 0) _ (HQ1.out).raw11 Try.underlying24 rfl (by kernel_rfl) ?_) | (with_reducible refine wpList_store_rowTo (o := ⟨none, _, _, _, _, _⟩) rfl 24 _ _ rfl rfl (w.heap.size) #[.int .i64 0, .int .i64 0, .int .i64 0, .int .i64 0, .slice none 0 0] rfl rfl 24 _ (HZ.out).raw11 (by kernel_rfl) (by kernel_rfl) (by kernel_rfl) ?_))
    refine bodyPost_ret (results_row_tmp11 rfl _ _ (w.heap.size) 24 _ _ rfl HR.out Try.underlying24 rfl (by kernel_rfl)) rfl ?_
    exact ⟨rfl, HBF.out⟩
  | true =>
    rw [if_pos rfl, if_pos rfl]
    go_enter Try.func22, Try.ntmps22
    go_upto_region 2 with fail
    rw [HWA.out]
    go_wp2_with (with_reducible refine wpList_load_row (o := ⟨some 16, _, _, _, _, _⟩) rfl 24 _ rfl (w.heap.size + 1) rfl 24 #[.int .i64 p, .int .i64 m, .int .i64 q, .int .i64 h, .slice none 0 0] (0, 0) _ (HQ.out).raw11 Try.underlying24 rfl (by kernel_rfl) ?_)
    refine (HM.out _).mono ?_
    rintro e w1 ⟨rfl, hb1⟩
    obtain ⟨hz, hq⟩ := HC.out w1 hb1
    have HZ := Lib.hid hz; have HQ1 := Lib.hid hq
    have HR := Lib.hid (has_row11 hz #[.int .i64 p, .int .i64 m, .int .i64 q, .int .i64 h, .slice none 0 0])
    have HBF := Lib.hid (below_row (g := w.heap.size) (HBWA.out.trans (hb1.mono HBWA.out.size)) (Nat.le_refl _) #[.int .i64 p, .int .i64 m, .int .i64 q, .int .i64 h, .slice none 0 0])
    clear hz hq hb1 HC HQ HM HWA HBWA
    go_wp2_with (first | (with_reducible refine wpList_load_row (o := ⟨some 20, _, _, _, _, _⟩) rfl 24 _ rfl (w.heap.size + 1) rfl 24 #[.int .i64 p, .int .i64 m, .int .i64 q, .int .i64 h, .slice none 0 0] (0, 0) _ (HQ1.out).raw11 Try.underlying24 rfl (by kernel_rfl) ?_) | (with_reducible refine wpList_store_rowTo (o := ⟨none, _, _, _, _, _⟩) rfl 24 _ _ rfl rfl (w.heap.size) #[.int .i64 p, .int .i64 m, .int .i64 q, .int .i64 h, .slice none 0 0] rfl rfl 24 _ (HZ.out).raw11 (by kernel_rfl) (by kernel_rfl) (by kernel_rfl) ?_))
    refine bodyPost_ret (results_row_tmp11 rfl _ _ (w.heap.size) 24 _ _ rfl HR.out Try.underlying24 rfl (by kernel_rfl)) rfl ?_
    exact ⟨rfl, HBF.out⟩

set_option maxRecDepth 100000 in
set_option maxHeartbeats 8000000 in
theorem olk_heard {P : Nat → Prop} (l : L0) (A : Option Addr) (c : Nat) (now : Int) (w : World) (hw : WsR P w A l.ws.length c l.ws) (hL : lightL l = true) :
    Calls Try.prog 15 #[.agg (lkC l A c), .int .i64 now] w fun e w' => ∃ A' c', e = .returned (.tuple #[.agg (lkC (heardL l now) A' c'), .int .i64 (heardE l now)]) ∧ WsR (Nw P w w') w' A' (heardL l now).ws.length c' (heardL l now).ws ∧ Below w.heap.size w w' := by
  obtain ⟨wa, hwa⟩ : ∃ wa, (w.alloc (.cells (lkC l A c) 24)).alloc (.cells #[.int .i64 0, .int .i64 0, .int .i64 0, .int .i64 0, .slice none 0 0] 24) = wa := ⟨_, rfl⟩
  have hbwa : Below w.heap.size w wa := by rw [← hwa]; exact ((Below.refl _ _).alloc (Nat.le_refl _) _).alloc (by simp) _
  have h0 : Has wa (w.heap.size) 24 (lkC l A c) := by rw [← hwa]; exact ((Has.made _ _ _).beside _)
  have h1 : Has wa (w.heap.size + 1) 24 #[.int .i64 0, .int .i64 0, .int .i64 0, .int .i64 0, .slice none 0 0] := by rw [← hwa]; exact (has_at11 (by simp))
  have HWA := Lib.hid hwa; have HBWA := Lib.hid hbwa
  have HL := Lib.hid (light_nums hL)
  have hlow := hw.low
  have HM := Lib.hid (fun W (hW : WsR (fun b => P b ∧ b < w.heap.size) W A l.ws.length c l.ws) => olk_may l A c W hW hL)
  have HCL := Lib.hid (fun W (hW : WsR (fun b => P b ∧ b < w.heap.size) W A l.ws.length c l.ws) => oclone_any l A c W hW (by have := HL.out.1; omega) HL.out.2)
  have HW0 := Lib.hid hlow
  have HW := Lib.hid (hlow.under hbwa)
  have HC := Lib.hid (fun W (hW : Below wa.heap.size wa W) => And.intro (h0.under hW h0.lt) (And.intro (h1.under hW h1.lt) (HW.out.under hW)))
  have HP := Lib.hid h0
  clear hwa hbwa h0 h1 hw hlow hL
  have HT := Lib.hid (fun W => oltime_any now W)
  have hr1 : (mayL l && isT now) = false → heardL l now = l0z ∧ heardE l now = 1 := fun h => by
    have e : heardE l now = 1 := by unfold heardE; rw [h]; rfl
    exact ⟨by unfold heardL; rw [e]; rfl, e⟩
  have hr2 : (mayL l && isT now) = true → heardL l now = { l with heard := if l.heard < now then now else l.heard } ∧ heardE l now = 0 := fun h => by
    have e : heardE l now = 0 := by unfold heardE; rw [h]; rfl
    exact ⟨by unfold heardL; rw [e]; rfl, e⟩
  have HR1 := Lib.hid hr1; have HR2 := Lib.hid hr2
  clear hr1 hr2
  generalize heardL l now = r at *
  generalize heardE l now = er at *
  generalize mayL l = bm at *
  generalize isT now = bt at *
  cases bm with
  | false =>
    obtain ⟨rfl, rfl⟩ := HR1.out rfl
    clear HR1 HR2
    go_enter Try.func15, Try.ntmps15
    go_upto_region 1 with fail
    rw [HWA.out]
    clear HWA
    go_wp2_with (with_reducible refine wpList_load_row (o := ⟨some 6, _, _, _, _, _⟩) rfl 24 _ rfl (w.heap.size) rfl 24 (lkC l A c) (0, 0) _ (HP.out).raw11 Try.underlying24 rfl (by kernel_rfl) ?_)
    refine (HM.out _ (HW.out.under (Below.refl _ _))).mono ?_
    rintro e w1 ⟨rfl, hb1⟩
    obtain ⟨hp, hz, hw1⟩ := HC.out w1 hb1
    have HP1 := Lib.hid hp; have HZ1 := Lib.hid hz; have HW1 := Lib.hid hw1
    have HB1 := Lib.hid (HBWA.out.trans (hb1.mono HBWA.out.size))
    clear hp hz hw1 hb1 HP HC HM HBWA HW
    have HR := Lib.hid (has_row11 HZ1.out #[.int .i64 0, .int .i64 0, .int .i64 0, .int .i64 0, .slice none 0 0])
    have HBF := Lib.hid (below_row (g := w.heap.size + 1) HB1.out (by omega) #[.int .i64 0, .int .i64 0, .int .i64 0, .int .i64 0, .slice none 0 0])
    go_wp2_with (with_reducible refine wpList_store_rowTo (o := ⟨none, _, _, _, _, _⟩) rfl 24 _ _ rfl rfl (w.heap.size + 1) #[.int .i64 0, .int .i64 0, .int .i64 0, .int .i64 0, .slice none 0 0] rfl rfl 24 _ (HZ1.out).raw11 (by kernel_rfl) (by kernel_rfl) (by kernel_rfl) ?_)
    refine bodyPost_ret (results_row_tmp11 rfl _ _ (w.heap.size + 1) 24 _ _ rfl HR.out Try.underlying24 rfl (by kernel_rfl)) rfl ?_
    exact ⟨none, 0, rfl, WsR.nil _, HBF.out⟩
  | true =>
    cases bt with
    | false =>
      obtain ⟨rfl, rfl⟩ := HR1.out rfl
      clear HR1 HR2
      go_enter Try.func15, Try.ntmps15
      go_upto_region 1 with fail
      rw [HWA.out]
      clear HWA
      go_wp2_with (with_reducible refine wpList_load_row (o := ⟨some 6, _, _, _, _, _⟩) rfl 24 _ rfl (w.heap.size) rfl 24 (lkC l A c) (0, 0) _ (HP.out).raw11 Try.underlying24 rfl (by kernel_rfl) ?_)
      refine (HM.out _ (HW.out.under (Below.refl _ _))).mono ?_
      rintro e w1 ⟨rfl, hb1⟩
      obtain ⟨hp, hz, hw1⟩ := HC.out w1 hb1
      have HP1 := Lib.hid hp; have HZ1 := Lib.hid hz; have HW1 := Lib.hid hw1
      have HB1 := Lib.hid (HBWA.out.trans (hb1.mono HBWA.out.size))
      clear hp hz hw1 hb1 HP HC HM HBWA HW
      go_wp2_with fail
      refine (HT.out _).mono ?_
      rintro e w' ⟨rfl, rfl⟩
      have HR := Lib.hid (has_row11 HZ1.out #[.int .i64 0, .int .i64 0, .int .i64 0, .int .i64 0, .slice none 0 0])
      have HBF := Lib.hid (below_row (g := w.heap.size + 1) HB1.out (by omega) #[.int .i64 0, .int .i64 0, .int .i64 0, .int .i64 0, .slice none 0 0])
      go_wp2_with (with_reducible refine wpList_store_rowTo (o := ⟨none, _, _, _, _, _⟩) rfl 24 _ _ rfl rfl (w.heap.size + 1) #[.int .i64 0, .int .i64 0, .int .i64 0, .int .i64 0, .slice none 0 0] rfl rfl 24 _ (HZ1.out).raw11 (by kernel_rfl) (by kernel_rfl) (by kernel_rfl) ?_)
      refine bodyPost_ret (results_row_tmp11 rfl _ _ (w.heap.size + 1) 24 _ _ rfl HR.out Try.underlying24 rfl (by kernel_rfl)) rfl ?_
      exact ⟨none, 0, rfl, WsR.nil _, HBF.out⟩
    | true =>
      obtain ⟨rfl, rfl⟩ := HR2.out rfl
      clear HR1 HR2
      obtain ⟨nh, hnh⟩ : ∃ nh, (if l.heard < now then now else l.heard) = nh := ⟨_, rfl⟩
      rw [hnh]
      have HNH : Hid (max l.heard now = nh) := Lib.hid (by rw [← hnh]; split <;> omega)
      clear hnh
      go_enter Try.func15, Try.ntmps15
      go_upto_region 1 with fail
      rw [HWA.out]
      clear HWA
      go_wp2_with (with_reducible refine wpList_load_row (o := ⟨some 6, _, _, _, _, _⟩) rfl 24 _ rfl (w.heap.size) rfl 24 (lkC l A c) (0, 0) _ (HP.out).raw11 Try.underlying24 rfl (by kernel_rfl) ?_)
      refine (HM.out _ (HW.out.under (Below.refl _ _))).mono ?_
      rintro e w1 ⟨rfl, hb1⟩
      obtain ⟨hp, hz, hw1⟩ := HC.out w1 hb1
      have HP1 := Lib.hid hp; have HZ1 := Lib.hid hz; have HW1 := Lib.hid hw1
      have HB1 := Lib.hid (HBWA.out.trans (hb1.mono HBWA.out.size))
      clear hp hz hw1 hb1 HP HC HM HBWA HW
      go_wp2_with fail
      refine (HT.out _).mono ?_
      rintro e w' ⟨rfl, rfl⟩
      go_wp2_with (with_reducible refine wpList_load_row (o := ⟨some 15, _, _, _, _, _⟩) rfl 24 _ rfl (w.heap.size) rfl 24 (lkC l A c) (0, 0) _ (HP1.out).raw11 Try.underlying24 rfl (by kernel_rfl) ?_)
      refine (HCL.out _ HW1.out).mono ?_
      rintro e w2 ⟨A2, c2, rfl, ho2, hb2⟩
      have hp2 := HP1.out.under hb2 HP1.out.lt
      obtain ⟨w3, hw3⟩ : ∃ w3, w2.setRow (w.heap.size) (lkC l A2 c2) = w3 := ⟨_, rfl⟩
      have hg3 : w2.grownBy w3 (some (w.heap.size)) := by rw [← hw3]; exact only_row11 _ _ _
      have hp3 : Has w3 (w.heap.size) 24 (lkC l A2 c2) := by rw [← hw3]; exact has_row11 hp2 _
      have hz3 : Has w3 (w.heap.size + 1) 24 #[.int .i64 0, .int .i64 0, .int .i64 0, .int .i64 0, .slice none 0 0] := (HZ1.out.under hb2 HZ1.out.lt).grow hg3 (by simp)
      have hb3 : Below w.heap.size w w3 := below_only (HB1.out.trans (hb2.mono HB1.out.size)) hg3 (Nat.le_trans HB1.out.size hb2.size) (Nat.le_refl _)
      have hgl : w.heap.size + 1 < w1.heap.size := HZ1.out.lt
      have hs2 := hb2.size
      have hs3 := hg3.size
      have ho3 := ho2.move hg3 (by rintro ⟨⟨_, h⟩ | ⟨h, _⟩, _⟩ <;> omega) (fun e => by have := (ho2.lt e).1; omega)
      have ho3 := (ho3.wide (fun b (hb : Nw (fun b => P b ∧ b < w.heap.size) w1 w2 b ∧ Value.ownBlock (.slice A2 l.ws.length c2) ≠ some b) => (show ((P b ∧ b < w.heap.size) ∨ (w1.heap.size ≤ b ∧ b < w3.heap.size)) ∧ Value.ownBlock (.slice A2 l.ws.length c2) ≠ some b from ⟨hb.1.imp id fun h => ⟨h.1, by omega⟩, hb.2⟩)))
      have HP3 := Lib.hid hp3; have HZ3 := Lib.hid hz3; have HO3 := Lib.hid ho3; have HB3 := Lib.hid hb3; have HW3 := Lib.hid hw3; have HG3 := Lib.hid (And.intro hgl (Nat.le_trans hs2 hs3)); have HP2 := Lib.hid hp2
      clear hp2 hw3 hg3 hp3 hz3 hb3 hgl hs2 hs3 ho3 ho2 hb2 HP1 HZ1 HW1 HB1 HCL
      go_upto_region 4 with (with_reducible refine wpList_store_rowTo (o := ⟨none, _, _, _, _, _⟩) rfl 24 _ _ rfl rfl (w.heap.size) (lkC l A2 c2) rfl rfl 24 _ (HP2.out).raw11 (by kernel_rfl) (by kernel_rfl) (by kernel_rfl) ?_)
      rw [HW3.out]
      clear HW3 HP2
      have m3 : w3.cell? ⟨w.heap.size, 3, none⟩ = some (.int .i64 l.heard) := HP3.out.cell 3
      have m3f := HP3.out.thaw 3
      obtain ⟨w4, hw4⟩ : ∃ w4, w3.setCell ⟨w.heap.size, 3, none⟩ (.int .i64 nh) = w4 := ⟨_, rfl⟩
      have hg4 : w3.grownBy w4 (some (w.heap.size)) := by rw [← hw4]; exact only_store (only_refl _ _) rfl _
      have hp4 : Has w4 (w.heap.size) 24 #[.int .i64 l.period, .int .i64 l.most, .int .i64 l.quiet, .int .i64 nh, .slice A2 l.ws.length c2] := by rw [← hw4]; exact (HP3.out.stored 3 _).is11 (by kernel_rfl)
      have hz4 := HZ3.out.grow hg4 (by simp)
      have hb4 := below_only HB3.out hg4 HB3.out.size (Nat.le_refl _)
      have hG := HG3.out
      have hs4 := hg4.size
      have ho4 := HO3.out.move hg4 (by rintro ⟨⟨_, h⟩ | ⟨h, _⟩, _⟩ <;> omega) (fun e => by have := (HO3.out.lt e).1; omega)
      have hg5 := only_row11 w4 (w.heap.size + 1) #[.int .i64 l.period, .int .i64 l.most, .int .i64 l.quiet, .int .i64 nh, .slice A2 l.ws.length c2]
      have ho5 := ho4.move hg5 (by rintro ⟨⟨_, h⟩ | ⟨h, _⟩, _⟩ <;> omega) (fun e => by have := (ho4.lt e).1; omega)
      have hb5 := below_row (g := w.heap.size + 1) hb4 (by omega) #[.int .i64 l.period, .int .i64 l.most, .int .i64 l.quiet, .int .i64 nh, .slice A2 l.ws.length c2]
      have hb5s : (w4.setRow (w.heap.size + 1) #[.int .i64 l.period, .int .i64 l.most, .int .i64 l.quiet, .int .i64 nh, .slice A2 l.ws.length c2]).heap.size = w4.heap.size := by simp
      have HS := Lib.hid (ho5.toWs (Q' := Nw P w (w4.setRow (w.heap.size + 1) #[.int .i64 l.period, .int .i64 l.most, .int .i64 l.quiet, .int .i64 nh, .slice A2 l.ws.length c2])) (fun b hb => hb.1.elim (fun h => .inl h.1) (fun h => .inr ⟨by omega, by omega⟩)) (fun b h h2 => .inr ⟨by omega, h2⟩))
      have HR := Lib.hid (has_row11 hz4 #[.int .i64 l.period, .int .i64 l.most, .int .i64 l.quiet, .int .i64 nh, .slice A2 l.ws.length c2])
      have HP4 := Lib.hid hp4; have HZ4 := Lib.hid hz4; have HBF := Lib.hid hb5; have HW4 := Lib.hid hw4
      clear hw4 hg4 hp4 hz4 hb4 ho4 hg5 ho5 hb5 hb5s hG hs4 HO3 HB3 HG3 HZ3
      go_upto_region 5 with fail
      rw [HNH.out, HW4.out]
      clear HW4 m3 m3f
      go_wp2_with (first | (with_reducible refine wpList_load_row (o := ⟨some 22, _, _, _, _, _⟩) rfl 24 _ rfl (w.heap.size) rfl 24 #[.int .i64 l.period, .int .i64 l.most, .int .i64 l.quiet, .int .i64 nh, .slice A2 l.ws.length c2] (0, 0) _ (HP4.out).raw11 Try.underlying24 rfl (by kernel_rfl) ?_) | (with_reducible refine wpList_store_rowTo (o := ⟨none, _, _, _, _, _⟩) rfl 24 _ _ rfl rfl (w.heap.size + 1) #[.int .i64 l.period, .int .i64 l.most, .int .i64 l.quiet, .int .i64 nh, .slice A2 l.ws.length c2] rfl rfl 24 _ (HZ4.out).raw11 (by kernel_rfl) (by kernel_rfl) (by kernel_rfl) ?_))
      refine bodyPost_ret (results_row_tmp11 rfl _ _ (w.heap.size + 1) 24 _ _ rfl HR.out Try.underlying24 rfl (by kernel_rfl)) rfl ?_
      exact ⟨A2, c2, rfl, HS.out, HBF.out⟩
end Go.Proofs.Ytbohoejikihnfaa
