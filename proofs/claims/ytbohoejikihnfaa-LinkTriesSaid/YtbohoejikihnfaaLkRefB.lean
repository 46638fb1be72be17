/-
  linesideref12, by contract: New, Heard, Acked.
-/
import Derived.Test.YtbohoejikihnfaaLkRefA

namespace Go.Proofs.Ytbohoejikihnfaa

open Go.RowKit

open Go.Great

set_option maxRecDepth 100000 in
set_option maxHeartbeats 8000000 in
theorem rnew12_any (p m q h : Int) (w : World) :
    Calls Try.prog 23 #[.int .i64 p, .int .i64 m, .int .i64 q, .int .i64 h] w fun e w' => e = .returned (.tuple #[.agg (lkC (newL p m q h) none 0), .int .i64 (newE12 p m q h)]) ∧ Below w.heap.size w w' := by
  obtain ⟨wa, hwa⟩ : ∃ wa, (w.alloc (.cells #[.int .i64 0, .int .i64 0, .int .i64 0, .int .i64 0, .slice none 0 0] 24)).alloc (.cells #[.int .i64 p, .int .i64 m, .int .i64 q, .int .i64 h, .slice none 0 0] 24) = wa := ⟨_, rfl⟩
  have hbwa : Below w.heap.size w wa := by rw [← hwa]; exact ((Below.refl _ _).alloc (Nat.le_refl _) _).alloc (by simp) _
  have h0 : Has wa (w.heap.size) 24 #[.int .i64 0, .int .i64 0, .int .i64 0, .int .i64 0, .slice none 0 0] := by rw [← hwa]; exact ((Has.made _ _ _).beside _)
  have h1 : Has wa (w.heap.size + 1) 24 #[.int .i64 p, .int .i64 m, .int .i64 q, .int .i64 h, .slice none 0 0] := by rw [← hwa]; exact (has_at11 (by simp))
  have HWA := Lib.hid hwa; have HBWA := Lib.hid hbwa
  have HM : Hid (∀ W, Calls Try.prog 21 #[.agg #[.int .i64 p, .int .i64 m, .int .i64 q, .int .i64 h, .slice none 0 0]] W fun e w' => e = .returned (.bool (mayL ⟨p, m, q, h, []⟩)) ∧ Below W.heap.size W w') := Lib.hid (fun W => rmay12_any ⟨p, m, q, h, []⟩ none 0 W (WsR.nil (P := fun _ => True) W))
  have HC := Lib.hid (fun W (hW : Below wa.heap.size wa W) => And.intro (h0.under hW h0.lt) (h1.under hW h1.lt))
  have HQ := Lib.hid h1
  have hs : newL p m q h = if mayL ⟨p, m, q, h, []⟩ = true then ⟨p, m, q, h, []⟩ else l0z := rfl
  have he : newE12 p m q h = if mayL ⟨p, m, q, h, []⟩ = true then 0 else 1 := rfl
  rw [hs, he]
  clear hs he hwa hbwa h0 h1
  generalize mayL ⟨p, m, q, h, []⟩ = b at *
  cases b with
  | false =>
    rw [if_neg (by decide), if_neg (by decide)]
    go_enter Try.func23, Try.ntmps23
    go_upto_region 2 with fail
    rw [HWA.out]
    go_wp2_with (with_reducible refine wpList_load_row (o := ⟨some 17, _, _, _, _, _⟩) rfl 24 _ rfl (w.heap.size + 1) rfl 24 #[.int .i64 p, .int .i64 m, .int .i64 q, .int .i64 h, .slice none 0 0] (0, 0) _ (HQ.out).raw11 Try.underlying24 rfl (by kernel_rfl) ?_)
    refine (HM.out _).mono ?_
    rintro e w1 ⟨rfl, hb1⟩
    obtain ⟨hz, hq⟩ := HC.out w1 hb1
    have HZ := Lib.hid hz; have HQ1 := Lib.hid hq
    have HR := Lib.hid (has_row11 hz #[.int .i64 0, .int .i64 0, .int .i64 0, .int .i64 0, .slice none 0 0])
    have HBF := Lib.hid (below_row (g := w.heap.size) (HBWA.out.trans (hb1.mono HBWA.out.size)) (Nat.le_refl _) #[.int .i64 0, .int .i64 0, .int .i64 0, .int .i64 0, .slice none 0 0])
    clear hz hq hb1 HC HQ HM HWA HBWA
    go_wp2_with (first | (with_reducible refine wpList_load_row (o := ⟨some 22, _, _, _, _, _⟩) rfl 24 _ rfl (w.heap.size + 1) rfl 24 #[.int .i64 p, .int .i64 m, .int .i64 q, .int .i64 h, .slice none 0 0] (0, 0) _ (HQ1.out).raw11 Try.underlying24 rfl (by kernel_rfl) ?_) | (with_reducible refine wpList_store_rowTo (o := ⟨none, _, _, _, _, _⟩) rfl 24 _ _ rfl rfl (w.heap.size) #[.int .i64 0, .int .i64 0, .int .i64 0, .int .i64 0, .slice none 0 0] rfl rfl 24 _ (HZ.out).raw11 (by kernel_rfl) (by kernel_rfl) (by kernel_rfl) ?_))
    refine bodyPost_ret (results_row_tmp11 rfl _ _ (w.heap.size) 24 _ _ rfl HR.out Try.underlying24 rfl (by kernel_rfl)) rfl ?_
    exact ⟨rfl, HBF.out⟩
  | true =>
    rw [if_pos rfl, if_pos rfl]
    go_enter Try.func23, Try.ntmps23
    go_upto_region 2 with fail
    rw [HWA.out]
    go_wp2_with (with_reducible refine wpList_load_row (o := ⟨some 17, _, _, _, _, _⟩) rfl 24 _ rfl (w.heap.size + 1) rfl 24 #[.int .i64 p, .int .i64 m, .int .i64 q, .int .i64 h, .slice none 0 0] (0, 0) _ (HQ.out).raw11 Try.underlying24 rfl (by kernel_rfl) ?_)
    refine (HM.out _).mono ?_
    rintro e w1 ⟨rfl, hb1⟩
    obtain ⟨hz, hq⟩ := HC.out w1 hb1
    have HZ := Lib.hid hz; have HQ1 := Lib.hid hq
    have HR := Lib.hid (has_row11 hz #[.int .i64 p, .int .i64 m, .int .i64 q, .int .i64 h, .slice none 0 0])
    have HBF := Lib.hid (below_row (g := w.heap.size) (HBWA.out.trans (hb1.mono HBWA.out.size)) (Nat.le_refl _) #[.int .i64 p, .int .i64 m, .int .i64 q, .int .i64 h, .slice none 0 0])
    clear hz hq hb1 HC HQ HM HWA HBWA
    go_wp2_with (first | (with_reducible refine wpList_load_row (o := ⟨some 22, _, _, _, _, _⟩) rfl 24 _ rfl (w.heap.size + 1) rfl 24 #[.int .i64 p, .int .i64 m, .int .i64 q, .int .i64 h, .slice none 0 0] (0, 0) _ (HQ1.out).raw11 Try.underlying24 rfl (by kernel_rfl) ?_) | (with_reducible refine wpList_store_rowTo (o := ⟨none, _, _, _, _, _⟩) rfl 24 _ _ rfl rfl (w.heap.size) #[.int .i64 p, .int .i64 m, .int .i64 q, .int .i64 h, .slice none 0 0] rfl rfl 24 _ (HZ.out).raw11 (by kernel_rfl) (by kernel_rfl) (by kernel_rfl) ?_))
    refine bodyPost_ret (results_row_tmp11 rfl _ _ (w.heap.size) 24 _ _ rfl HR.out Try.underlying24 rfl (by kernel_rfl)) rfl ?_
    exact ⟨rfl, HBF.out⟩

set_option maxRecDepth 100000 in
set_option maxHeartbeats 8000000 in
set_option maxRecDepth 100000 in
set_option maxHeartbeats 8000000 in
theorem rheard_any {P : Nat → Prop} (l : L0) (A : Option Addr) (c : Nat) (now : Int) (w : World) (hw : WsR P w A l.ws.length c l.ws) :
    Calls Try.prog 16 #[.agg (lkC l A c), .int .i64 now] w fun e w' => ∃ A' c', e = .returned (.tuple #[.agg (lkC (heardL l now) A' c'), .int .i64 (heardE l now)]) ∧ WsR (Nw P w w') w' A' (heardL l now).ws.length c' (heardL l now).ws ∧ Below w.heap.size w w' := by
  obtain ⟨wa, hwa⟩ : ∃ wa, (w.alloc (.cells (lkC l A c) 24)).alloc (.cells #[.int .i64 0, .int .i64 0, .int .i64 0, .int .i64 0, .slice none 0 0] 24) = wa := ⟨_, rfl⟩
  have hbwa : Below w.heap.size w wa := by rw [← hwa]; exact ((Below.refl _ _).alloc (Nat.le_refl _) _).alloc (by simp) _
  have h0 : Has wa (w.heap.size) 24 (lkC l A c) := by rw [← hwa]; exact ((Has.made _ _ _).beside _)
  have h1 : Has wa (w.heap.size + 1) 24 #[.int .i64 0, .int .i64 0, .int .i64 0, .int .i64 0, .slice none 0 0] := by rw [← hwa]; exact (has_at11 (by simp))
  have HWA := Lib.hid hwa; have HBWA := Lib.hid hbwa
  have HM := Lib.hid (fun W (hW : WsR P W A l.ws.length c l.ws) => rmay12_any l A c W hW)
  have HW0 := Lib.hid hw
  have HW := Lib.hid (hw.under hbwa)
  have HC := Lib.hid (fun W (hW : Below wa.heap.size wa W) => And.intro (h0.under hW h0.lt) (And.intro (h1.under hW h1.lt) (HW.out.under hW)))
  have HP := Lib.hid h0
  clear hwa hbwa h0 h1 hw
  have HT := Lib.hid (fun W => rtime_any now W)
  have HWX := Lib.hid (fun W (hW : Below w.heap.size w W) => HW0.out.under hW)
  have hr1 : (mayL l && isT now) = false → heardL l now = l0z ∧ heardE l now = 1 := fun h => by
    have e : heardE l now = 1 := by unfold heardE; rw [h]; rfl
    exact ⟨by unfold heardL; rw [e]; rfl, e⟩
  have hr2 : (mayL l && isT now) = true → heardL l now = { l with heard := if l.heard < now then now else l.heard } ∧ heardE l now = 0 := fun h => by
    have e : heardE l now = 0 := by unfold heardE; rw [h]; rfl
    exact ⟨by unfold heardL; rw [e]; rfl, e⟩
  have HR1 := Lib.hid hr1; have HR2 := Lib.hid hr2
  clear hr1 hr2
  generalize heardL l now = r at *
  generalize heardE l now = er at *
  generalize mayL l = bm at *
  generalize isT now = bt at *
  cases bm with
  | false =>
    obtain ⟨rfl, rfl⟩ := HR1.out rfl
    clear HR1 HR2
    go_enter Try.func16, Try.ntmps16
    go_upto_region 1 with fail
    rw [HWA.out]
    clear HWA
    go_wp2_with (with_reducible refine wpList_load_row (o := ⟨some 9, _, _, _, _, _⟩) rfl 24 _ rfl (w.heap.size) rfl 24 (lkC l A c) (0, 0) _ (HP.out).raw11 Try.underlying24 rfl (by kernel_rfl) ?_)
    refine (HM.out _ (HW.out.under (Below.refl _ _))).mono ?_
    rintro e w1 ⟨rfl, hb1⟩
    obtain ⟨hp, hz, hw1⟩ := HC.out w1 hb1
    have HP1 := Lib.hid hp; have HZ1 := Lib.hid hz; have HW1 := Lib.hid hw1
    have HB1 := Lib.hid (HBWA.out.trans (hb1.mono HBWA.out.size))
    clear hp hz hw1 hb1 HP HC HM HBWA HW
    go_wp2_with fail
    refine (HT.out _).mono ?_
    rintro e w' ⟨rfl, rfl⟩
    have HR := Lib.hid (has_row11 HZ1.out #[.int .i64 0, .int .i64 0, .int .i64 0, .int .i64 0, .slice none 0 0])
    have HBF := Lib.hid (below_row (g := w.heap.size + 1) HB1.out (by omega) #[.int .i64 0, .int .i64 0, .int .i64 0, .int .i64 0, .slice none 0 0])
    go_wp2_with (with_reducible refine wpList_store_rowTo (o := ⟨none, _, _, _, _, _⟩) rfl 24 _ _ rfl rfl (w.heap.size + 1) #[.int .i64 0, .int .i64 0, .int .i64 0, .int .i64 0, .slice none 0 0] rfl rfl 24 _ (HZ1.out).raw11 (by kernel_rfl) (by kernel_rfl) (by kernel_rfl) ?_)
    refine bodyPost_ret (results_row_tmp11 rfl _ _ (w.heap.size + 1) 24 _ _ rfl HR.out Try.underlying24 rfl (by kernel_rfl)) rfl ?_
    exact ⟨none, 0, rfl, WsR.nil _, HBF.out⟩
  | true =>
    cases bt with
    | false =>
      obtain ⟨rfl, rfl⟩ := HR1.out rfl
      clear HR1 HR2
      go_enter Try.func16, Try.ntmps16
      go_upto_region 1 with fail
      rw [HWA.out]
      clear HWA
      go_wp2_with (with_reducible refine wpList_load_row (o := ⟨some 9, _, _, _, _, _⟩) rfl 24 _ rfl (w.heap.size) rfl 24 (lkC l A c) (0, 0) _ (HP.out).raw11 Try.underlying24 rfl (by kernel_rfl) ?_)
      refine (HM.out _ (HW.out.under (Below.refl _ _))).mono ?_
      rintro e w1 ⟨rfl, hb1⟩
      obtain ⟨hp, hz, hw1⟩ := HC.out w1 hb1
      have HP1 := Lib.hid hp; have HZ1 := Lib.hid hz; have HW1 := Lib.hid hw1
      have HB1 := Lib.hid (HBWA.out.trans (hb1.mono HBWA.out.size))
      clear hp hz hw1 hb1 HP HC HM HBWA HW
      go_wp2_with fail
      refine (HT.out _).mono ?_
      rintro e w' ⟨rfl, rfl⟩
      have HR := Lib.hid (has_row11 HZ1.out #[.int .i64 0, .int .i64 0, .int .i64 0, .int .i64 0, .slice none 0 0])
      have HBF := Lib.hid (below_row (g := w.heap.size + 1) HB1.out (by omega) #[.int .i64 0, .int .i64 0, .int .i64 0, .int .i64 0, .slice none 0 0])
      go_wp2_with (with_reducible refine wpList_store_rowTo (o := ⟨none, _, _, _, _, _⟩) rfl 24 _ _ rfl rfl (w.heap.size + 1) #[.int .i64 0, .int .i64 0, .int .i64 0, .int .i64 0, .slice none 0 0] rfl rfl 24 _ (HZ1.out).raw11 (by kernel_rfl) (by kernel_rfl) (by kernel_rfl) ?_)
      refine bodyPost_ret (results_row_tmp11 rfl _ _ (w.heap.size + 1) 24 _ _ rfl HR.out Try.underlying24 rfl (by kernel_rfl)) rfl ?_
      exact ⟨none, 0, rfl, WsR.nil _, HBF.out⟩
    | true =>
      obtain ⟨rfl, rfl⟩ := HR2.out rfl
      clear HR1 HR2
      by_cases x1 : l.heard < now
      · rw [if_pos x1]
        go_enter Try.func16, Try.ntmps16
        go_upto_region 1 with fail
        rw [HWA.out]
        clear HWA
        go_wp2_with (with_reducible refine wpList_load_row (o := ⟨some 9, _, _, _, _, _⟩) rfl 24 _ rfl (w.heap.size) rfl 24 (lkC l A c) (0, 0) _ (HP.out).raw11 Try.underlying24 rfl (by kernel_rfl) ?_)
        refine (HM.out _ (HW.out.under (Below.refl _ _))).mono ?_
        rintro e w1 ⟨rfl, hb1⟩
        obtain ⟨hp, hz, hw1⟩ := HC.out w1 hb1
        have HP1 := Lib.hid hp; have HZ1 := Lib.hid hz; have HW1 := Lib.hid hw1
        have HB1 := Lib.hid (HBWA.out.trans (hb1.mono HBWA.out.size))
        clear hp hz hw1 hb1 HP HC HM HBWA HW
        go_wp2_with fail
        refine (HT.out _).mono ?_
        rintro e w' ⟨rfl, rfl⟩
        have hgl : w.heap.size + 1 < w1.heap.size := HZ1.out.lt
        have hmk : Has (w1.alloc (.cells #[.int .i64 0, .int .i64 0, .int .i64 0, .int .i64 0, .slice none 0 0] 24)) w1.heap.size 24 #[.int .i64 0, .int .i64 0, .int .i64 0, .int .i64 0, .slice none 0 0] := Has.made _ _ _
        obtain ⟨w2, hw2⟩ : ∃ w2, (w1.alloc (.cells #[.int .i64 0, .int .i64 0, .int .i64 0, .int .i64 0, .slice none 0 0] 24)).setRow w1.heap.size (lkC l A c) = w2 := ⟨_, rfl⟩
        have ho2 : Has w2 w1.heap.size 24 (lkC l A c) := by rw [← hw2]; exact has_row11 hmk _
        have hbw : Below w1.heap.size w1 w2 := by rw [← hw2]; exact below_row (g := w1.heap.size) ((Below.refl _ _).alloc (Nat.le_refl _) _) (Nat.le_refl _) _
        have HSZ_w2 := Lib.hid (show w2.heap.size = w1.heap.size + 1 by rw [← hw2]; simp)
        have HMK := Lib.hid hmk
        have HFR := Lib.hid hw2
        clear hw2 hmk
        go_upto_region 6 with (first | (with_reducible refine wpList_load_row (o := ⟨some 20, _, _, _, _, _⟩) rfl 24 _ rfl (w.heap.size) rfl 24 (lkC l A c) (0, 0) _ (HP1.out).raw11 Try.underlying24 rfl (by kernel_rfl) ?_) | (with_reducible refine wpList_store_rowTo (o := ⟨none, _, _, _, _, _⟩) rfl 24 _ _ rfl rfl (w1.heap.size) (lkC l A c) rfl rfl 24 _ (HMK.out).raw11 (by kernel_rfl) (by kernel_rfl) (by kernel_rfl) ?_))
        rw [HFR.out]
        clear HFR HMK
        have hpb := HP1.out.under hbw HP1.out.lt
        have a3 : w2.cell? ⟨w.heap.size, 3, none⟩ = some (.int .i64 l.heard) := hpb.cell 3
        clear hpb
        have b3 : w2.cell? ⟨w1.heap.size, 3, none⟩ = some (.int .i64 l.heard) := ho2.cell 3
        have z3 := ho2.thaw 3
        obtain ⟨w3, hw3⟩ : ∃ w3, w2.setCell ⟨w1.heap.size, 3, none⟩ (.int .i64 now) = w3 := ⟨_, rfl⟩
        have ho3 : Has w3 w1.heap.size 24 #[.int .i64 l.period, .int .i64 l.most, .int .i64 l.quiet, .int .i64 now, .slice A l.ws.length c] := by rw [← hw3]; exact (ho2.stored 3 _).is11 (by kernel_rfl)
        have hb3 : Below w1.heap.size w1 w3 := by rw [← hw3]; exact hbw.setCell (p := ⟨w1.heap.size, 3, none⟩) (Nat.le_refl _) _
        have HW3 := Lib.hid hw3
        clear hw3
        go_upto_region 8 with fail
        rw [HW3.out]
        clear HW3 b3 z3 a3 ho2 hbw
        have hz3 := HZ1.out.under hb3 HZ1.out.lt
        have HO3 := Lib.hid ho3; have HZ3 := Lib.hid hz3
        have HR := Lib.hid (has_row11 hz3 #[.int .i64 l.period, .int .i64 l.most, .int .i64 l.quiet, .int .i64 now, .slice A l.ws.length c])
        have hbf := below_row (g := w.heap.size + 1) (HB1.out.trans (hb3.mono HB1.out.size)) (by omega) #[.int .i64 l.period, .int .i64 l.most, .int .i64 l.quiet, .int .i64 now, .slice A l.ws.length c]
        have HS := Lib.hid (show WsR (Nw P w (w3.setRow (w.heap.size + 1) #[.int .i64 l.period, .int .i64 l.most, .int .i64 l.quiet, .int .i64 now, .slice A l.ws.length c])) (w3.setRow (w.heap.size + 1) #[.int .i64 l.period, .int .i64 l.most, .int .i64 l.quiet, .int .i64 now, .slice A l.ws.length c]) A l.ws.length c l.ws from (HWX.out _ hbf).wide (fun _ => .inl))
        have HBF := Lib.hid hbf
        clear ho3 hz3 hb3 hbf
        go_wp2_with (first | (with_reducible refine wpList_load_row (o := ⟨some 27, _, _, _, _, _⟩) rfl 24 _ rfl (w1.heap.size) rfl 24 #[.int .i64 l.period, .int .i64 l.most, .int .i64 l.quiet, .int .i64 now, .slice A l.ws.length c] (0, 0) _ (HO3.out).raw11 Try.underlying24 rfl (by kernel_rfl) ?_) | (with_reducible refine wpList_store_rowTo (o := ⟨none, _, _, _, _, _⟩) rfl 24 _ _ rfl rfl (w.heap.size + 1) #[.int .i64 l.period, .int .i64 l.most, .int .i64 l.quiet, .int .i64 now, .slice A l.ws.length c] rfl rfl 24 _ (HZ3.out).raw11 (by kernel_rfl) (by kernel_rfl) (by kernel_rfl) ?_))
        refine bodyPost_ret (results_row_tmp11 rfl _ _ (w.heap.size + 1) 24 _ _ rfl HR.out Try.underlying24 rfl (by kernel_rfl)) rfl ?_
        exact ⟨A, c, rfl, HS.out, HBF.out⟩
      · rw [if_neg x1]
        go_enter Try.func16, Try.ntmps16
        go_upto_region 1 with fail
        rw [HWA.out]
        clear HWA
        go_wp2_with (with_reducible refine wpList_load_row (o := ⟨some 9, _, _, _, _, _⟩) rfl 24 _ rfl (w.heap.size) rfl 24 (lkC l A c) (0, 0) _ (HP.out).raw11 Try.underlying24 rfl (by kernel_rfl) ?_)
        refine (HM.out _ (HW.out.under (Below.refl _ _))).mono ?_
        rintro e w1 ⟨rfl, hb1⟩
        obtain ⟨hp, hz, hw1⟩ := HC.out w1 hb1
        have HP1 := Lib.hid hp; have HZ1 := Lib.hid hz; have HW1 := Lib.hid hw1
        have HB1 := Lib.hid (HBWA.out.trans (hb1.mono HBWA.out.size))
        clear hp hz hw1 hb1 HP HC HM HBWA HW
        go_wp2_with fail
        refine (HT.out _).mono ?_
        rintro e w' ⟨rfl, rfl⟩
        have hgl : w.heap.size + 1 < w1.heap.size := HZ1.out.lt
        have hmk : Has (w1.alloc (.cells #[.int .i64 0, .int .i64 0, .int .i64 0, .int .i64 0, .slice none 0 0] 24)) w1.heap.size 24 #[.int .i64 0, .int .i64 0, .int .i64 0, .int .i64 0, .slice none 0 0] := Has.made _ _ _
        obtain ⟨w2, hw2⟩ : ∃ w2, (w1.alloc (.cells #[.int .i64 0, .int .i64 0, .int .i64 0, .int .i64 0, .slice none 0 0] 24)).setRow w1.heap.size (lkC l A c) = w2 := ⟨_, rfl⟩
        have ho2 : Has w2 w1.heap.size 24 (lkC l A c) := by rw [← hw2]; exact has_row11 hmk _
        have hbw : Below w1.heap.size w1 w2 := by rw [← hw2]; exact below_row (g := w1.heap.size) ((Below.refl _ _).alloc (Nat.le_refl _) _) (Nat.le_refl _) _
        have HSZ_w2 := Lib.hid (show w2.heap.size = w1.heap.size + 1 by rw [← hw2]; simp)
        have HMK := Lib.hid hmk
        have HFR := Lib.hid hw2
        clear hw2 hmk
        go_upto_region 6 with (first | (with_reducible refine wpList_load_row (o := ⟨some 20, _, _, _, _, _⟩) rfl 24 _ rfl (w.heap.size) rfl 24 (lkC l A c) (0, 0) _ (HP1.out).raw11 Try.underlying24 rfl (by kernel_rfl) ?_) | (with_reducible refine wpList_store_rowTo (o := ⟨none, _, _, _, _, _⟩) rfl 24 _ _ rfl rfl (w1.heap.size) (lkC l A c) rfl rfl 24 _ (HMK.out).raw11 (by kernel_rfl) (by kernel_rfl) (by kernel_rfl) ?_))
        rw [HFR.out]
        clear HFR HMK
        have hpb := HP1.out.under hbw HP1.out.lt
        have a3 : w2.cell? ⟨w.heap.size, 3, none⟩ = some (.int .i64 l.heard) := hpb.cell 3
        clear hpb
        obtain ⟨w3, hw3⟩ : ∃ w3, w3 = w2 := ⟨_, rfl⟩
        subst hw3
        have ho3 := ho2
        have hb3 := hbw
        clear ho2 hbw
        go_upto_region 8 with fail
        clear a3
        have hz3 := HZ1.out.under hb3 HZ1.out.lt
        have HO3 := Lib.hid ho3; have HZ3 := Lib.hid hz3
        have HR := Lib.hid (has_row11 hz3 (lkC l A c))
        have hbf := below_row (g := w.heap.size + 1) (HB1.out.trans (hb3.mono HB1.out.size)) (by omega) (lkC l A c)
        have HS := Lib.hid (show WsR (Nw P w (w3.setRow (w.heap.size + 1) (lkC l A c))) (w3.setRow (w.heap.size + 1) (lkC l A c)) A l.ws.length c l.ws from (HWX.out _ hbf).wide (fun _ => .inl))
        have HBF := Lib.hid hbf
        clear ho3 hz3 hb3 hbf
        go_wp2_with (first | (with_reducible refine wpList_load_row (o := ⟨some 27, _, _, _, _, _⟩) rfl 24 _ rfl (w1.heap.size) rfl 24 (lkC l A c) (0, 0) _ (HO3.out).raw11 Try.underlying24 rfl (by kernel_rfl) ?_) | (with_reducible refine wpList_store_rowTo (o := ⟨none, _, _, _, _, _⟩) rfl 24 _ _ rfl rfl (w.heap.size + 1) (lkC l A c) rfl rfl 24 _ (HZ3.out).raw11 (by kernel_rfl) (by kernel_rfl) (by kernel_rfl) ?_))
        refine bodyPost_ret (results_row_tmp11 rfl _ _ (w.heap.size + 1) 24 _ _ rfl HR.out Try.underlying24 rfl (by kernel_rfl)) rfl ?_
        exact ⟨A, c, rfl, HS.out, HBF.out⟩

end Go.Proofs.Ytbohoejikihnfaa
