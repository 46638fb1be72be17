/-
  package link as landed: Sent.
-/
import Derived.Test.YtbohoejikihnfaaLkOK

namespace Go.Proofs.Ytbohoejikihnfaa

open Go.RowKit

open Go.Great

theorem posT_ins {ws : List W0} {x : W0} {i : Nat} (h : PosT ws x.t i) (hh : hasT ws x.t = false) : insW x ws = ws.take i ++ [x] ++ ws.drop i := by
  induction ws generalizing i with
  | nil => simp [insW]
  | cons y r ih =>
    have hy : y.t ≠ x.t := by
      unfold hasT at hh
      rw [List.any_eq_false] at hh
      have := hh y (List.mem_cons_self ..)
      simpa using this
    have hr : hasT r x.t = false := by
      unfold hasT at hh ⊢
      rw [List.any_eq_false] at hh ⊢
      exact fun z hz => hh z (List.mem_cons_of_mem _ hz)
    cases i with
    | zero =>
      have := h.2.2 0 y rfl (Nat.le_refl _)
      rw [insW, if_pos (by omega)]
      simp
    | succ j =>
      have := h.2.1 0 y rfl (by omega)
      rw [insW, if_neg (by omega), ih (i := j) ⟨by have := h.1; simp at this; omega, fun k z hz hk => h.2.1 (k + 1) z (by simpa using hz) (by omega), fun k z hz hk => h.2.2 (k + 1) z (by simpa using hz) (by omega)⟩ hr]
      simp
theorem BodyR.grownO {P : Nat → Prop} {W W' : World} {v : Value} {xs : List Nat} {row : Option Nat} (h : BodyR P W v xs) (hg : W.grownBy W' row) (hn : ∀ b, P b → row ≠ some b) : BodyR P W' v xs := by
  obtain ⟨A, c, e, hs, h8, hp⟩ := h
  refine ⟨A, c, e, ⟨hs.1, hs.2.1, fun ad ha j u hu => ?_⟩, h8, hp⟩
  have h0 : 0 < xs.length := by
    have h1 := (List.getElem?_eq_some_iff.1 hu).1
    rw [u8s_length] at h1
    omega
  exact hg.cell (hs.2.2 ad ha j u hu) (fun e' => hn _ (hp ad ha h0) (by rw [← e', add_block11]))
theorem fit_nums {l : L0} {t now : Int} {xs : List Nat} (h : fitS l t now xs = true) : mayL l = true ∧ (1 ≤ l.period ∧ l.period ≤ 1048576) ∧ (0 ≤ t ∧ t ≤ 4294967294) ∧ (0 ≤ now ∧ now ≤ 4294967294) ∧ 0 < xs.length ∧ xs.length < 1024 := by
  unfold fitS okB at h
  simp only [Bool.and_eq_true, decide_eq_true_eq, isT_iff] at h
  refine ⟨h.1, ?_, h.2.1, h.2.2.1, h.2.2.2⟩
  have h1 := h.1
  unfold mayL headOk at h1
  simp only [Bool.and_eq_true, decide_eq_true_eq] at h1
  exact ⟨h1.1.1, h1.1.2.1⟩

set_option maxRecDepth 100000 in
set_option maxHeartbeats 8000000 in
theorem olk_sent {P : Nat → Prop} (l : L0) (A : Option Addr) (c : Nat) (t now : Int) (B : Option Addr) (d : Nat) (xs : List Nat) (w : World) (hw : WsR P w A l.ws.length c l.ws) (hx : BodyR P w (.slice B xs.length d) xs) (hL : lightL l = true) (hxs : xs.length ≤ 2000) :
    Calls Try.prog 10 #[.agg (lkC l A c), .int .i64 t, .int .i64 now, .slice B xs.length d] w fun e w' => ∃ A' c', e = .returned (.tuple #[.agg (lkC (sentL l t now xs) A' c'), .int .i64 (sentE l t now xs)]) ∧ WsR (Nw P w w') w' A' (sentL l t now xs).ws.length c' (sentL l t now xs).ws ∧ Below w.heap.size w w' := by
  obtain ⟨wa, hwa⟩ : ∃ wa, (w.alloc (.cells (lkC l A c) 24)).alloc (.cells #[.int .i64 0, .int .i64 0, .int .i64 0, .int .i64 0, .slice none 0 0] 24) = wa := ⟨_, rfl⟩
  have hbwa : Below w.heap.size w wa := by rw [← hwa]; exact ((Below.refl _ _).alloc (Nat.le_refl _) _).alloc (by simp) _
  have h0 : Has wa (w.heap.size) 24 (lkC l A c) := by rw [← hwa]; exact ((Has.made _ _ _).beside _)
  have h1 : Has wa (w.heap.size + 1) 24 #[.int .i64 0, .int .i64 0, .int .i64 0, .int .i64 0, .slice none 0 0] := by rw [← hwa]; exact (has_at11 (by simp))
  have HWA := Lib.hid hwa; have HBWA := Lib.hid hbwa
  have HL := Lib.hid (light_nums hL)
  have hlow := hw.low
  have HM := Lib.hid (fun W (hW : WsR (fun b => P b ∧ b < w.heap.size) W A l.ws.length c l.ws) => olk_may l A c W hW hL)
  have HCL := Lib.hid (fun W (hW : WsR (fun b => P b ∧ b < w.heap.size) W A l.ws.length c l.ws) => oclone_any l A c W hW (by have := HL.out.1; omega) HL.out.2)
  have HW0 := Lib.hid hlow
  have HW := Lib.hid (hlow.under hbwa)
  have HC := Lib.hid (fun W (hW : Below wa.heap.size wa W) => And.intro (h0.under hW h0.lt) (And.intro (h1.under hW h1.lt) (HW.out.under hW)))
  have HP := Lib.hid h0
  clear hwa hbwa h0 h1 hw hlow hL
  have HT := Lib.hid (fun z W => oltime_any z W)
  have HSB := Lib.hid (fun W => olbody_any B d xs W)
  obtain ⟨B', d', he', hsx, h8x, _⟩ := hx
  injection he' with he1 he2 he3
  subst he1 he3
  have HCB0 := Lib.hid (fun W (hW : Below w.heap.size w W) => oclone8_any B xs.length d xs W (hsx.under hW) (by omega))
  have H8 := Lib.hid h8x
  clear hsx h8x he2 hxs
  have hr1 : fitS l t now xs = false → sentL l t now xs = l0z ∧ sentE l t now xs = 1 := fun h => by
    have e : sentE l t now xs = 1 := by unfold sentE; rw [h]; rfl
    exact ⟨by unfold sentL; rw [e]; rfl, e⟩
  have hr2 : fitS l t now xs = true → hasT l.ws t = true → sentL l t now xs = l0z ∧ sentE l t now xs = 5 := fun h h2 => by
    have e : sentE l t now xs = 5 := by unfold sentE; rw [h, h2]; rfl
    exact ⟨by unfold sentL; rw [e]; rfl, e⟩
  have hr3 : fitS l t now xs = true → hasT l.ws t = false → 8 ≤ l.ws.length → sentL l t now xs = l0z ∧ sentE l t now xs = 3 := fun h h2 h3 => by
    have e : sentE l t now xs = 3 := by unfold sentE; rw [h, h2, if_pos rfl, if_neg (by decide), if_pos h3]
    exact ⟨by unfold sentL; rw [e]; rfl, e⟩
  have hr4 : fitS l t now xs = true → hasT l.ws t = false → ¬ 8 ≤ l.ws.length → sentL l t now xs = { l with ws := insW ⟨t, now + l.period, 0, xs⟩ l.ws } ∧ sentE l t now xs = 0 := fun h h2 h3 => by
    have e : sentE l t now xs = 0 := by unfold sentE; rw [h, h2, if_pos rfl, if_neg (by decide), if_neg h3]
    exact ⟨by unfold sentL; rw [e]; rfl, e⟩
  have HR1 := Lib.hid hr1; have HR2 := Lib.hid hr2; have HR3 := Lib.hid hr3; have HR4 := Lib.hid hr4
  have HFN := Lib.hid (fun h => fit_nums (l := l) (t := t) (now := now) (xs := xs) h)
  have HMS0 := Lib.hid (fun h => may_sort (l := l) h)
  clear hr1 hr2 hr3 hr4
  generalize sentL l t now xs = r at *
  generalize sentE l t now xs = er at *
  have HTt := Lib.hid (HT.out t)
  have HTn := Lib.hid (HT.out now)
  clear HT
  have hfd : fitS l t now xs = (mayL l && (isT t && (isT now && okB xs))) := rfl
  rw [hfd] at HR1 HR2 HR3 HR4 HFN
  clear hfd
  generalize mayL l = bm at *
  generalize isT t = bt at *
  generalize isT now = bn at *
  generalize okB xs = bx at *
  cases bm with
  | false =>
    obtain ⟨rfl, rfl⟩ := HR1.out rfl
    clear HR1 HR2 HR3 HR4 HCB0 HFN HMS0
    go_enter Try.func10, Try.ntmps10
    go_upto_region 1 with fail
    rw [HWA.out]
    clear HWA
    go_wp2_with (with_reducible refine wpList_load_row (o := ⟨some 13, _, _, _, _, _⟩) rfl 24 _ rfl (w.heap.size) rfl 24 (lkC l A c) (0, 0) _ (HP.out).raw11 Try.underlying24 rfl (by kernel_rfl) ?_)
    refine (HM.out _ (HW.out.under (Below.refl _ _))).mono ?_
    rintro e w1 ⟨rfl, hb1⟩
    obtain ⟨hp, hz, hw1⟩ := HC.out w1 hb1
    have HP1 := Lib.hid hp; have HZ1 := Lib.hid hz; have HW1 := Lib.hid hw1
    have HB1 := Lib.hid (HBWA.out.trans (hb1.mono HBWA.out.size))
    clear hp hz hw1 hb1 HP HC HM HBWA HW
    have HR := Lib.hid (has_row11 HZ1.out #[.int .i64 0, .int .i64 0, .int .i64 0, .int .i64 0, .slice none 0 0])
    have HBF := Lib.hid (below_row (g := w.heap.size + 1) HB1.out (by omega) #[.int .i64 0, .int .i64 0, .int .i64 0, .int .i64 0, .slice none 0 0])
    go_wp2_with (with_reducible refine wpList_store_rowTo (o := ⟨none, _, _, _, _, _⟩) rfl 24 _ _ rfl rfl (w.heap.size + 1) #[.int .i64 0, .int .i64 0, .int .i64 0, .int .i64 0, .slice none 0 0] rfl rfl 24 _ (HZ1.out).raw11 (by kernel_rfl) (by kernel_rfl) (by kernel_rfl) ?_)
    refine bodyPost_ret (results_row_tmp11 rfl _ _ (w.heap.size + 1) 24 _ _ rfl HR.out Try.underlying24 rfl (by kernel_rfl)) rfl ?_
    exact ⟨none, 0, rfl, WsR.nil _, HBF.out⟩
  | true =>
  cases bt with
  | false =>
    obtain ⟨rfl, rfl⟩ := HR1.out rfl
    clear HR1 HR2 HR3 HR4 HCB0 HFN HMS0
    go_enter Try.func10, Try.ntmps10
    go_upto_region 1 with fail
    rw [HWA.out]
    clear HWA
    go_wp2_with (with_reducible refine wpList_load_row (o := ⟨some 13, _, _, _, _, _⟩) rfl 24 _ rfl (w.heap.size) rfl 24 (lkC l A c) (0, 0) _ (HP.out).raw11 Try.underlying24 rfl (by kernel_rfl) ?_)
    refine (HM.out _ (HW.out.under (Below.refl _ _))).mono ?_
    rintro e w1 ⟨rfl, hb1⟩
    obtain ⟨hp, hz, hw1⟩ := HC.out w1 hb1
    have HP1 := Lib.hid hp; have HZ1 := Lib.hid hz; have HW1 := Lib.hid hw1
    have HB1 := Lib.hid (HBWA.out.trans (hb1.mono HBWA.out.size))
    clear hp hz hw1 hb1 HP HC HM HBWA HW
    go_wp2_with fail
    refine (HTt.out _).mono ?_
    rintro e w' ⟨rfl, rfl⟩
    have HR := Lib.hid (has_row11 HZ1.out #[.int .i64 0, .int .i64 0, .int .i64 0, .int .i64 0, .slice none 0 0])
    have HBF := Lib.hid (below_row (g := w.heap.size + 1) HB1.out (by omega) #[.int .i64 0, .int .i64 0, .int .i64 0, .int .i64 0, .slice none 0 0])
    go_wp2_with (with_reducible refine wpList_store_rowTo (o := ⟨none, _, _, _, _, _⟩) rfl 24 _ _ rfl rfl (w.heap.size + 1) #[.int .i64 0, .int .i64 0, .int .i64 0, .int .i64 0, .slice none 0 0] rfl rfl 24 _ (HZ1.out).raw11 (by kernel_rfl) (by kernel_rfl) (by kernel_rfl) ?_)
    refine bodyPost_ret (results_row_tmp11 rfl _ _ (w.heap.size + 1) 24 _ _ rfl HR.out Try.underlying24 rfl (by kernel_rfl)) rfl ?_
    exact ⟨none, 0, rfl, WsR.nil _, HBF.out⟩
  | true =>
  cases bn with
  | false =>
    obtain ⟨rfl, rfl⟩ := HR1.out rfl
    clear HR1 HR2 HR3 HR4 HCB0 HFN HMS0
    go_enter Try.func10, Try.ntmps10
    go_upto_region 1 with fail
    rw [HWA.out]
    clear HWA
    go_wp2_with (with_reducible refine wpList_load_row (o := ⟨some 13, _, _, _, _, _⟩) rfl 24 _ rfl (w.heap.size) rfl 24 (lkC l A c) (0, 0) _ (HP.out).raw11 Try.underlying24 rfl (by kernel_rfl) ?_)
    refine (HM.out _ (HW.out.under (Below.refl _ _))).mono ?_
    rintro e w1 ⟨rfl, hb1⟩
    obtain ⟨hp, hz, hw1⟩ := HC.out w1 hb1
    have HP1 := Lib.hid hp; have HZ1 := Lib.hid hz; have HW1 := Lib.hid hw1
    have HB1 := Lib.hid (HBWA.out.trans (hb1.mono HBWA.out.size))
    clear hp hz hw1 hb1 HP HC HM HBWA HW
    go_wp2_with fail
    refine (HTt.out _).mono ?_
    rintro e w' ⟨rfl, rfl⟩
    go_wp2_with fail
    refine (HTn.out _).mono ?_
    rintro e w' ⟨rfl, rfl⟩
    have HR := Lib.hid (has_row11 HZ1.out #[.int .i64 0, .int .i64 0, .int .i64 0, .int .i64 0, .slice none 0 0])
    have HBF := Lib.hid (below_row (g := w.heap.size + 1) HB1.out (by omega) #[.int .i64 0, .int .i64 0, .int .i64 0, .int .i64 0, .slice none 0 0])
    go_wp2_with (with_reducible refine wpList_store_rowTo (o := ⟨none, _, _, _, _, _⟩) rfl 24 _ _ rfl rfl (w.heap.size + 1) #[.int .i64 0, .int .i64 0, .int .i64 0, .int .i64 0, .slice none 0 0] rfl rfl 24 _ (HZ1.out).raw11 (by kernel_rfl) (by kernel_rfl) (by kernel_rfl) ?_)
    refine bodyPost_ret (results_row_tmp11 rfl _ _ (w.heap.size + 1) 24 _ _ rfl HR.out Try.underlying24 rfl (by kernel_rfl)) rfl ?_
    exact ⟨none, 0, rfl, WsR.nil _, HBF.out⟩
  | true =>
  cases bx with
  | false =>
    obtain ⟨rfl, rfl⟩ := HR1.out rfl
    clear HR1 HR2 HR3 HR4 HCB0 HFN HMS0
    go_enter Try.func10, Try.ntmps10
    go_upto_region 1 with fail
    rw [HWA.out]
    clear HWA
    go_wp2_with (with_reducible refine wpList_load_row (o := ⟨some 13, _, _, _, _, _⟩) rfl 24 _ rfl (w.heap.size) rfl 24 (lkC l A c) (0, 0) _ (HP.out).raw11 Try.underlying24 rfl (by kernel_rfl) ?_)
    refine (HM.out _ (HW.out.under (Below.refl _ _))).mono ?_
    rintro e w1 ⟨rfl, hb1⟩
    obtain ⟨hp, hz, hw1⟩ := HC.out w1 hb1
    have HP1 := Lib.hid hp; have HZ1 := Lib.hid hz; have HW1 := Lib.hid hw1
    have HB1 := Lib.hid (HBWA.out.trans (hb1.mono HBWA.out.size))
    clear hp hz hw1 hb1 HP HC HM HBWA HW
    go_wp2_with fail
    refine (HTt.out _).mono ?_
    rintro e w' ⟨rfl, rfl⟩
    go_wp2_with fail
    refine (HTn.out _).mono ?_
    rintro e w' ⟨rfl, rfl⟩
    go_wp2_with fail
    refine (HSB.out _).mono ?_
    rintro e w' ⟨rfl, rfl⟩
    have HR := Lib.hid (has_row11 HZ1.out #[.int .i64 0, .int .i64 0, .int .i64 0, .int .i64 0, .slice none 0 0])
    have HBF := Lib.hid (below_row (g := w.heap.size + 1) HB1.out (by omega) #[.int .i64 0, .int .i64 0, .int .i64 0, .int .i64 0, .slice none 0 0])
    go_wp2_with (with_reducible refine wpList_store_rowTo (o := ⟨none, _, _, _, _, _⟩) rfl 24 _ _ rfl rfl (w.heap.size + 1) #[.int .i64 0, .int .i64 0, .int .i64 0, .int .i64 0, .slice none 0 0] rfl rfl 24 _ (HZ1.out).raw11 (by kernel_rfl) (by kernel_rfl) (by kernel_rfl) ?_)
    refine bodyPost_ret (results_row_tmp11 rfl _ _ (w.heap.size + 1) 24 _ _ rfl HR.out Try.underlying24 rfl (by kernel_rfl)) rfl ?_
    exact ⟨none, 0, rfl, WsR.nil _, HBF.out⟩
  | true =>
  have HMS := Lib.hid (HMS0.out rfl)
  have hfn := HFN.out rfl
  have HFN2 := Lib.hid hfn
  clear HMS0 HFN hfn HR1
  obtain ⟨bh, hbh⟩ : ∃ bh, hasT l.ws t = bh := ⟨_, rfl⟩
  have HBH := Lib.hid hbh
  rw [hbh] at HR2 HR3 HR4
  clear hbh
  cases bh with
  | true =>
    obtain ⟨rfl, rfl⟩ := HR2.out rfl rfl
    clear HR2 HR3 HR4 HFN2
    go_enter Try.func10, Try.ntmps10
    go_upto_region 1 with fail
    rw [HWA.out]
    clear HWA
    go_wp2_with (with_reducible refine wpList_load_row (o := ⟨some 13, _, _, _, _, _⟩) rfl 24 _ rfl (w.heap.size) rfl 24 (lkC l A c) (0, 0) _ (HP.out).raw11 Try.underlying24 rfl (by kernel_rfl) ?_)
    refine (HM.out _ (HW.out.under (Below.refl _ _))).mono ?_
    rintro e w1 ⟨rfl, hb1⟩
    obtain ⟨hp, hz, hw1⟩ := HC.out w1 hb1
    have HP1 := Lib.hid hp; have HZ1 := Lib.hid hz; have HW1 := Lib.hid hw1
    have HB1 := Lib.hid (HBWA.out.trans (hb1.mono HBWA.out.size))
    clear hp hz hw1 hb1 HP HC HM HBWA HW
    go_wp2_with fail
    refine (HTt.out _).mono ?_
    rintro e w' ⟨rfl, rfl⟩
    go_wp2_with fail
    refine (HTn.out _).mono ?_
    rintro e w' ⟨rfl, rfl⟩
    go_wp2_with fail
    refine (HSB.out _).mono ?_
    rintro e w' ⟨rfl, rfl⟩
    have m4 : w1.cell? ⟨w.heap.size, 4, none⟩ = some (.slice A l.ws.length c) := HP1.out.cell 4
    go_wp2_with fail
    refine (ofind_any A c l.ws l.ws.length t w1 HW1.out HMS.out.2 (by have := HMS.out.1; omega)).mono ?_
    rintro e w2 ⟨i, rfl, hpos, hb2⟩
    have HPOS := Lib.hid hpos
    have HP2 := Lib.hid (HP1.out.under hb2 HP1.out.lt); have HZ2 := Lib.hid (HZ1.out.under hb2 HZ1.out.lt); have HW2 := Lib.hid (HW1.out.under hb2); have HB2 := Lib.hid (HB1.out.trans (hb2.mono HB1.out.size))
    clear HP1 HZ1 HW1 HB1 hb2 m4 hpos
    rw [HBH.out]
    clear HBH HPOS HMS HW2
    have HR := Lib.hid (has_row11 HZ2.out #[.int .i64 0, .int .i64 0, .int .i64 0, .int .i64 0, .slice none 0 0])
    have HBF := Lib.hid (below_row (g := w.heap.size + 1) HB2.out (by omega) #[.int .i64 0, .int .i64 0, .int .i64 0, .int .i64 0, .slice none 0 0])
    go_wp2_with (with_reducible refine wpList_store_rowTo (o := ⟨none, _, _, _, _, _⟩) rfl 24 _ _ rfl rfl (w.heap.size + 1) #[.int .i64 0, .int .i64 0, .int .i64 0, .int .i64 0, .slice none 0 0] rfl rfl 24 _ (HZ2.out).raw11 (by kernel_rfl) (by kernel_rfl) (by kernel_rfl) ?_)
    refine bodyPost_ret (results_row_tmp11 rfl _ _ (w.heap.size + 1) 24 _ _ rfl HR.out Try.underlying24 rfl (by kernel_rfl)) rfl ?_
    exact ⟨none, 0, rfl, WsR.nil _, HBF.out⟩
  | false =>
  by_cases x8 : 8 ≤ l.ws.length
  · obtain ⟨rfl, rfl⟩ := HR3.out rfl rfl x8
    have y8 : (l.ws.length : Int) = 8 := by have := HMS.out.1; omega
    clear HR2 HR3 HR4 HFN2 x8
    go_enter Try.func10, Try.ntmps10
    go_upto_region 1 with fail
    rw [HWA.out]
    clear HWA
    go_wp2_with (with_reducible refine wpList_load_row (o := ⟨some 13, _, _, _, _, _⟩) rfl 24 _ rfl (w.heap.size) rfl 24 (lkC l A c) (0, 0) _ (HP.out).raw11 Try.underlying24 rfl (by kernel_rfl) ?_)
    refine (HM.out _ (HW.out.under (Below.refl _ _))).mono ?_
    rintro e w1 ⟨rfl, hb1⟩
    obtain ⟨hp, hz, hw1⟩ := HC.out w1 hb1
    have HP1 := Lib.hid hp; have HZ1 := Lib.hid hz; have HW1 := Lib.hid hw1
    have HB1 := Lib.hid (HBWA.out.trans (hb1.mono HBWA.out.size))
    clear hp hz hw1 hb1 HP HC HM HBWA HW
    go_wp2_with fail
    refine (HTt.out _).mono ?_
    rintro e w' ⟨rfl, rfl⟩
    go_wp2_with fail
    refine (HTn.out _).mono ?_
    rintro e w' ⟨rfl, rfl⟩
    go_wp2_with fail
    refine (HSB.out _).mono ?_
    rintro e w' ⟨rfl, rfl⟩
    have m4 : w1.cell? ⟨w.heap.size, 4, none⟩ = some (.slice A l.ws.length c) := HP1.out.cell 4
    go_wp2_with fail
    refine (ofind_any A c l.ws l.ws.length t w1 HW1.out HMS.out.2 (by have := HMS.out.1; omega)).mono ?_
    rintro e w2 ⟨i, rfl, hpos, hb2⟩
    have HPOS := Lib.hid hpos
    have HP2 := Lib.hid (HP1.out.under hb2 HP1.out.lt); have HZ2 := Lib.hid (HZ1.out.under hb2 HZ1.out.lt); have HW2 := Lib.hid (HW1.out.under hb2); have HB2 := Lib.hid (HB1.out.trans (hb2.mono HB1.out.size))
    clear HP1 HZ1 HW1 HB1 hb2 m4 hpos
    rw [HBH.out]
    have m4 : w2.cell? ⟨w.heap.size, 4, none⟩ = some (.slice A l.ws.length c) := HP2.out.cell 4
    clear HBH HPOS HMS HW2
    have HR := Lib.hid (has_row11 HZ2.out #[.int .i64 0, .int .i64 0, .int .i64 0, .int .i64 0, .slice none 0 0])
    have HBF := Lib.hid (below_row (g := w.heap.size + 1) HB2.out (by omega) #[.int .i64 0, .int .i64 0, .int .i64 0, .int .i64 0, .slice none 0 0])
    go_wp2_with (with_reducible refine wpList_store_rowTo (o := ⟨none, _, _, _, _, _⟩) rfl 24 _ _ rfl rfl (w.heap.size + 1) #[.int .i64 0, .int .i64 0, .int .i64 0, .int .i64 0, .slice none 0 0] rfl rfl 24 _ (HZ2.out).raw11 (by kernel_rfl) (by kernel_rfl) (by kernel_rfl) ?_)
    refine bodyPost_ret (results_row_tmp11 rfl _ _ (w.heap.size + 1) 24 _ _ rfl HR.out Try.underlying24 rfl (by kernel_rfl)) rfl ?_
    exact ⟨none, 0, rfl, WsR.nil _, HBF.out⟩
  obtain ⟨rfl, rfl⟩ := HR4.out rfl rfl x8
  have y8 : ¬ (l.ws.length : Int) = 8 := by have := HMS.out.1; omega
  have HX8 := Lib.hid x8
  clear HR2 HR3 HR4 x8
  have hdue : wrap64 (now + l.period) = now + l.period := IntWalk.wrap64_in _ (by have := HFN2.out; omega)
  have hdue2 : IntKind.i64.wrap (now + l.period) = now + l.period := by have := HFN2.out; rw [IntKind.wrap_i64]; omega
  obtain ⟨ws2, hws2⟩ : ∃ ws2, insW ⟨t, now + l.period, 0, xs⟩ l.ws = ws2 := ⟨_, rfl⟩
  rw [hws2]
  have HWS2 := Lib.hid hws2
  clear hws2
  go_enter Try.func10, Try.ntmps10
  go_upto_region 1 with fail
  rw [HWA.out]
  clear HWA
  go_wp2_with (with_reducible refine wpList_load_row (o := ⟨some 13, _, _, _, _, _⟩) rfl 24 _ rfl (w.heap.size) rfl 24 (lkC l A c) (0, 0) _ (HP.out).raw11 Try.underlying24 rfl (by kernel_rfl) ?_)
  refine (HM.out _ (HW.out.under (Below.refl _ _))).mono ?_
  rintro e w1 ⟨rfl, hb1⟩
  obtain ⟨hp, hz, hw1⟩ := HC.out w1 hb1
  have HP1 := Lib.hid hp; have HZ1 := Lib.hid hz; have HW1 := Lib.hid hw1
  have HB1 := Lib.hid (HBWA.out.trans (hb1.mono HBWA.out.size))
  clear hp hz hw1 hb1 HP HC HM HBWA HW
  go_wp2_with fail
  refine (HTt.out _).mono ?_
  rintro e w' ⟨rfl, rfl⟩
  go_wp2_with fail
  refine (HTn.out _).mono ?_
  rintro e w' ⟨rfl, rfl⟩
  go_wp2_with fail
  refine (HSB.out _).mono ?_
  rintro e w' ⟨rfl, rfl⟩
  have m4 : w1.cell? ⟨w.heap.size, 4, none⟩ = some (.slice A l.ws.length c) := HP1.out.cell 4
  go_wp2_with fail
  refine (ofind_any A c l.ws l.ws.length t w1 HW1.out HMS.out.2 (by have := HMS.out.1; omega)).mono ?_
  rintro e w2 ⟨i, rfl, hpos, hb2⟩
  have HPOS := Lib.hid hpos
  have HP2 := Lib.hid (HP1.out.under hb2 HP1.out.lt); have HZ2 := Lib.hid (HZ1.out.under hb2 HZ1.out.lt); have HW2 := Lib.hid (HW1.out.under hb2); have HB2 := Lib.hid (HB1.out.trans (hb2.mono HB1.out.size))
  clear HP1 HZ1 HW1 HB1 hb2 m4 hpos
  rw [HBH.out]
  have hins : ws2 = l.ws.take i ++ [⟨t, now + l.period, 0, xs⟩] ++ l.ws.drop i := by rw [← HWS2.out]; exact posT_ins (x := ⟨t, now + l.period, 0, xs⟩) HPOS.out HBH.out
  have HINS := Lib.hid (And.intro HPOS.out.1 hins)
  clear hins HPOS HBH HWS2
  have m4 : w2.cell? ⟨w.heap.size, 4, none⟩ = some (.slice A l.ws.length c) := HP2.out.cell 4
  have HCB := Lib.hid (fun W (hW : Below w2.heap.size w2 W) => HCB0.out W (HB2.out.trans (hW.mono HB2.out.size)))
  clear HCB0
  go_upto_region 8 with fail
  clear m4 y8
  have m0 : w2.cell? ⟨w.heap.size, 0, none⟩ = some (.int .i64 l.period) := HP2.out.cell 0
  refine wp_region_held_drew (S := (fun W_ => W_.cell? ⟨w.heap.size, 0, none⟩ = some (.int .i64 l.period))) (by kernel_rfl) ?_ (fun hHeld => ?_)
  · exact m0
  refine wpAnyH_take (i := 0) (oi := ⟨some 48, _, _, _, _, _⟩) (v := ?_) rfl (by kernel_rfl) (by kernel_rfl) (by kernel_rfl) (fun _ _ _ h => h) (Or.inl ⟨by rfl, ?_⟩) (by assumption) ?_
  rotate_left
  · intro w_ hSw; (try dsimp only at hSw); (obtain s0 := hSw); go_simp <;> with_reducible rfl
  simp only [Act.put, List.setIfInBounds_toArray, List.set_cons_zero, List.set_cons_succ]
  refine wpAnyH_take (i := 1) (oi := ⟨some 49, _, _, _, _, _⟩) (v := ?_) rfl (by kernel_rfl) (by kernel_rfl) (by kernel_rfl) (fun _ _ _ h => h) (Or.inl ⟨by rfl, ?_⟩) (by assumption) ?_
  rotate_left
  · intro w_ hSw; (try dsimp only at hSw); (obtain s0 := hSw); go_simp <;> with_reducible rfl
  simp only [Act.put, List.setIfInBounds_toArray, List.set_cons_zero, List.set_cons_succ]
  refine wpAnyH_take (i := 2) (oi := ⟨some 50, _, _, _, _, _⟩) (v := ?_) rfl (by kernel_rfl) (by kernel_rfl) (by kernel_rfl) (fun _ _ _ h => h) (Or.inl ⟨by rfl, ?_⟩) (by assumption) ?_
  rotate_left
  · intro w_ hSw; (try dsimp only at hSw); (obtain s0 := hSw); go_simp <;> with_reducible rfl
  simp only [Act.put, List.setIfInBounds_toArray, List.set_cons_zero, List.set_cons_succ]
  refine wpAnyH_take (i := 3) (oi := ⟨some 51, _, _, _, _, _⟩) (v := ?_) rfl (by kernel_rfl) (by kernel_rfl) (by kernel_rfl) (fun _ _ _ h => h) (Or.inl ⟨by rfl, ?_⟩) (by assumption) ?_
  rotate_left
  · intro w_ hSw; (try dsimp only at hSw); (obtain s0 := hSw); go_simp <;> with_reducible rfl
  simp only [Act.put, List.setIfInBounds_toArray, List.set_cons_zero, List.set_cons_succ]
  refine wpAnyH_take (i := 4) (oi := ⟨some 52, _, _, _, _, _⟩) (v := ?_) rfl (by kernel_rfl) (by kernel_rfl) (by kernel_rfl) (fun _ _ _ h => h) (Or.inl ⟨by rfl, ?_⟩) (by assumption) ?_
  rotate_left
  · intro w_ hSw; (try dsimp only at hSw); (obtain s0 := hSw); go_simp <;> with_reducible rfl
  simp only [Act.put, List.setIfInBounds_toArray, List.set_cons_zero, List.set_cons_succ]
  refine wpAnyH_take (i := 5) (oi := ⟨some 53, _, _, _, _, _⟩) (v := ?_) rfl (by kernel_rfl) (by kernel_rfl) (by kernel_rfl) (fun _ _ _ h => h) (Or.inl ⟨by rfl, ?_⟩) (by assumption) ?_
  rotate_left
  · intro w_ hSw; (try dsimp only at hSw); (obtain s0 := hSw); go_simp <;> with_reducible rfl
  simp only [Act.put, List.setIfInBounds_toArray, List.set_cons_zero, List.set_cons_succ]
  refine wpAnyH_ready (rs := [6, 8]) (by kernel_rfl) (by simp) ?_
  refine AllReadyH.cons (o := ⟨some 54, _, _, _, _, _⟩) rfl (fun K hK => ?_) ?_
  · go_simp
    go_at_call 28
    refine (HCB.out _ (below_draws (Below.refl _ _) 1)).mono ?_
    rintro e w3 ⟨A9, c9, rfl, ho9, hb9⟩
    go_wp2_with fail
    have hb23 : Below w2.heap.size w2 w3 := undrew12 hb9.out
    have HO9 := Lib.hid ho9.out
    have n0 : w3.cell? ⟨w.heap.size, 0, none⟩ = some (.int .i64 l.period) := (hb23.cell (cell_block m0)).trans m0
    refine hK.out _ _ ?_ (fun hHeld => ?_)
    · exact n0
    clear hK K ho9 hb9
    try simp only [Act.put, List.setIfInBounds_toArray, List.set_cons_zero, List.set_cons_succ]
    refine wpAnyH_take (i := 7) (oi := ⟨some 55, _, _, _, _, _⟩) (v := ?_) rfl (by kernel_rfl) (by kernel_rfl) (by kernel_rfl) (fun _ _ _ h => h) (Or.inl ⟨by rfl, ?_⟩) (by assumption) ?_
    rotate_left
    · intro w_ hSw; (try dsimp only at hSw); (obtain s0 := hSw); go_simp <;> with_reducible rfl
    simp only [Act.put, List.setIfInBounds_toArray, List.set_cons_zero, List.set_cons_succ]
    refine wpAnyH_ready (rs := [8]) (by kernel_rfl) (by simp) ?_
    refine AllReadyH.cons (o := ⟨some 12, _, _, _, _, _⟩) rfl (fun K hK => ?_) AllReadyH.nil
    go_simp
    have hmk : Has (w3.alloc (.cells #[.int .i64 0, .int .i64 0, .int .i64 0, .slice none 0 0] 48)) w3.heap.size 48 #[.int .i64 0, .int .i64 0, .int .i64 0, .slice none 0 0] := Has.made _ _ _
    have n1 : (w3.alloc (.cells #[.int .i64 0, .int .i64 0, .int .i64 0, .slice none 0 0] 48)).cell? ⟨w.heap.size, 0, none⟩ = some (.int .i64 l.period) := (((Below.refl _ _).alloc (Nat.le_refl _) _ : Below w3.heap.size w3 _).cell (cell_block n0)).trans n0
    refine hK.out _ _ ?_ (fun hHeld => ?_)
    · exact n1
    clear hK K
    try simp only [Act.put, List.setIfInBounds_toArray, List.set_cons_zero, List.set_cons_succ]
    refine wpAnyH_ready (rs := [9]) (by kernel_rfl) (by simp) ?_
    refine AllReadyH.cons (o := ⟨none, _, _, _, _, _⟩) rfl (fun K hK => ?_) AllReadyH.nil
    rw [if_pos (by rfl)]
    refine wp_store_row 48 _ _ rfl (w3.heap.size) #[.int .i64 t, .int .i64 (now + l.period), .int .i64 0, .slice A9 xs.length c9] (by rfl) (by rfl) 48 _ (hmk).raw11 (by kernel_rfl) (by kernel_rfl) (by kernel_rfl) ?_
    obtain ⟨w4, hw4⟩ : ∃ w4, (w3.alloc (.cells #[.int .i64 0, .int .i64 0, .int .i64 0, .slice none 0 0] 48)).setRow w3.heap.size #[.int .i64 t, .int .i64 (now + l.period), .int .i64 0, .slice A9 xs.length c9] = w4 := ⟨_, rfl⟩
    rw [hw4]
    have hgw : Has w4 w3.heap.size 48 #[.int .i64 t, .int .i64 (now + l.period), .int .i64 0, .slice A9 xs.length c9] := by rw [← hw4]; exact has_row11 hmk _
    have hb34 : Below w3.heap.size w3 w4 := by rw [← hw4]; exact below_row (g := w3.heap.size) ((Below.refl _ _).alloc (Nat.le_refl _) _) (Nat.le_refl _) _
    have n2 : w4.cell? ⟨w.heap.size, 0, none⟩ = some (.int .i64 l.period) := (hb34.cell (cell_block n0)).trans n0
    refine hK.out _ _ ?_ (fun hHeld => ?_)
    · exact n2
    clear hK K
    refine wpAnyH_done (by kernel_rfl) ?_ _
    have hs4 : w4.heap.size = w3.heap.size + 1 := by rw [← hw4]; simp
    have hs3 := hb23.size
    have HBY : Hid (BodyR (fun b => w2.heap.size ≤ b ∧ b < w4.heap.size) w4 (.slice A9 xs.length c9) xs) := Lib.hid (((BodyR.own HO9.out H8.out).under hb34).wide (fun b (hb : w2.heap.size ≤ b ∧ b < w3.heap.size) => ⟨hb.1, by omega⟩))
    have HB24 : Hid (Below w2.heap.size w2 w4) := Lib.hid (hb23.trans (hb34.mono hs3))
    obtain ⟨gw, hgw2⟩ : ∃ gw, w3.heap.size = gw := ⟨_, rfl⟩
    rw [hgw2] at hgw ⊢
    have HGW := Lib.hid hgw
    have HGN : Hid (w2.heap.size ≤ gw ∧ gw < w4.heap.size) := Lib.hid ⟨by omega, hgw.lt⟩
    clear hgw hb34 hb23 n0 n1 n2 hmk hw4 hs4 hs3 HO9 hgw2 hHeld m0
    have hgl0 : w.heap.size + 1 < w2.heap.size := HZ2.out.lt
    have HP4 := Lib.hid (HP2.out.under HB24.out HP2.out.lt); have HZ4 := Lib.hid (HZ2.out.under HB24.out HZ2.out.lt); have HW4 := Lib.hid (HW2.out.under HB24.out); have HB4 := Lib.hid (HB2.out.trans (HB24.out.mono HB2.out.size))
    have HS24 := Lib.hid (And.intro hgl0 HB24.out.size)
    clear HP2 HZ2 HW2 HB2 HB24 hgl0 HCB
    go_upto_region 9 with fail
    go_wp2_with (with_reducible refine wpList_load_row (o := ⟨some 56, _, _, _, _, _⟩) rfl 24 _ rfl (w.heap.size) rfl 24 (lkC l A c) (0, 0) _ (HP4.out).raw11 Try.underlying24 rfl (by kernel_rfl) ?_)
    refine (HCL.out _ HW4.out).mono ?_
    rintro e w5 ⟨A2, c2, rfl, ho5, hb5⟩
    have hp5 := HP4.out.under hb5 HP4.out.lt
    obtain ⟨w6, hw6⟩ : ∃ w6, w5.setRow (w.heap.size) (lkC l A2 c2) = w6 := ⟨_, rfl⟩
    have hg6 : w5.grownBy w6 (some (w.heap.size)) := by rw [← hw6]; exact only_row11 _ _ _
    have hp6 : Has w6 (w.heap.size) 24 (lkC l A2 c2) := by rw [← hw6]; exact has_row11 hp5 _
    have hz6 : Has w6 (w.heap.size + 1) 24 #[.int .i64 0, .int .i64 0, .int .i64 0, .int .i64 0, .slice none 0 0] := (HZ4.out.under hb5 HZ4.out.lt).grow hg6 (by simp)
    have hb6 : Below w.heap.size w w6 := below_only (HB4.out.trans (hb5.mono HB4.out.size)) hg6 (Nat.le_trans HB4.out.size hb5.size) (Nat.le_refl _)
    have hgl : w.heap.size + 1 < w4.heap.size := HZ4.out.lt
    have hs5 := hb5.size
    have hs6 := hg6.size
    have ho6 := ho5.move hg6 (by rintro ⟨⟨_, h⟩ | ⟨h, _⟩, _⟩ <;> omega) (fun e => by have := (ho5.lt e).1; omega)
    have ho6 := (ho6.wide (fun b (hb : Nw (fun b => P b ∧ b < w.heap.size) w4 w5 b ∧ Value.ownBlock (.slice A2 l.ws.length c2) ≠ some b) => (show ((P b ∧ b < w.heap.size) ∨ (w4.heap.size ≤ b ∧ b < w6.heap.size)) ∧ Value.ownBlock (.slice A2 l.ws.length c2) ≠ some b from ⟨hb.1.imp id fun h => ⟨h.1, by omega⟩, hb.2⟩)))
    have HGW6 := Lib.hid ((HGW.out.under hb5 HGW.out.lt).grow hg6 (by have := HGN.out; have := HS24.out; simp; omega))
    have HBY6 := Lib.hid ((HBY.out.under hb5).grown hg6 (by have := HS24.out; omega))
    have HP6 := Lib.hid hp6; have HZ6 := Lib.hid hz6; have HO6 := Lib.hid ho6; have HB6 := Lib.hid hb6; have HW6 := Lib.hid hw6; have HG6 := Lib.hid (And.intro hgl (Nat.le_trans hs5 hs6)); have HP5 := Lib.hid hp5
    clear hp5 hw6 hg6 hp6 hz6 hb6 hgl hs5 hs6 ho6 ho5 hb5 HP4 HZ4 HW4 HB4 HCL
    go_upto_region 10 with (with_reducible refine wpList_store_rowTo (o := ⟨none, _, _, _, _, _⟩) rfl 24 _ _ rfl rfl (w.heap.size) (lkC l A2 c2) rfl rfl 24 _ (HP5.out).raw11 (by kernel_rfl) (by kernel_rfl) (by kernel_rfl) ?_)
    rw [HW6.out]
    clear HW6 HP5
    have hn8 := HMS.out.1
    obtain ⟨l2, hl2, hn2, ho2, hp2⟩ := HO6.out
    have hins := HINS.out
    have hG := HG6.out
    have hG2 := HS24.out
    have hv : Has (w6.alloc (.cells #[.int .i64 t, .int .i64 (now + l.period), .int .i64 0, .slice A9 xs.length c9] 48)) w6.heap.size 48 ([.int .i64 t, .int .i64 (now + l.period), .int .i64 0, .slice A9 xs.length c9] : List Value).toArray := Has.made _ _ _
    have hI := oins_any w4.heap.size A2 l.ws.length c2 i w6.heap.size 1 (cellsW l2) [.int .i64 t, .int .i64 (now + l.period), .int .i64 0, .slice A9 xs.length c9] (w6.alloc (.cells #[.int .i64 t, .int .i64 (now + l.period), .int .i64 0, .slice A9 xs.length c9] 48)) (ho2.alloc _) hins.1 (by omega) (by simp; omega) hv rfl (by intro u hu; simp only [List.mem_cons, List.not_mem_nil, or_false] at hu; rcases hu with rfl | rfl | rfl | rfl <;> rfl) (bodies_one12 hp2) (fun e => by have := (ho2.lt _ e).2; omega)
    have HI := Lib.hid hI
    have HL2 := Lib.hid hl2; have HN2 := Lib.hid hn2; have HPB := Lib.hid hp2; have HOW := Lib.hid ho2
    have m4 : w6.cell? ⟨w.heap.size, 4, none⟩ = some (.slice A2 l.ws.length c2) := HP6.out.cell 4
    have k0 : w6.cell? ⟨gw, 0, none⟩ = some (.int .i64 t) := HGW6.out.cell 0
    have k1 : w6.cell? ⟨gw, 1, none⟩ = some (.int .i64 (now + l.period)) := HGW6.out.cell 1
    have k2 : w6.cell? ⟨gw, 2, none⟩ = some (.int .i64 0) := HGW6.out.cell 2
    have k3 : w6.cell? ⟨gw, 3, none⟩ = some (.slice A9 xs.length c9) := HGW6.out.cell 3
    clear hl2 hn2 ho2 hp2 hI hv HO6 hG hG2 hins hn8
    go_wp2_with fail
    refine HI.out.mono ?_
    rintro e w7 ⟨A3, c3, rfl, ho7, hg7⟩
    have hg7 := hg7.out; have hins := HINS.out; have hG := HG6.out; have hG2 := HS24.out; have hgn := HGN.out
    have hba : Below w6.heap.size w6 (w6.alloc (.cells #[.int .i64 t, .int .i64 (now + l.period), .int .i64 0, .slice A9 xs.length c9] 48)) := (Below.refl _ _).alloc (Nat.le_refl _) _
    have hp7 : Has w7 (w.heap.size) 24 (lkC l A2 c2) := (HP6.out.beside _).grow hg7 (fun e => by have := (HOW.out.lt _ e.symm).1; omega)
    have hz7 : Has w7 (w.heap.size + 1) 24 #[.int .i64 0, .int .i64 0, .int .i64 0, .int .i64 0, .slice none 0 0] := (HZ6.out.beside _).grow hg7 (fun e => by have := (HOW.out.lt _ e.symm).1; omega)
    have hb7 : Below w.heap.size w w7 := below_own (HB6.out.alloc HB6.out.size _) (by have := HB6.out.size; simp; omega) (HOW.out.alloc _) (by omega) rfl hg7
    have m5 : w7.cell? ⟨w.heap.size, 4, none⟩ = some (.slice A2 l.ws.length c2) := hp7.cell 4
    have m5f := hp7.thaw 4
    have hs7 : w6.heap.size + 1 ≤ w7.heap.size := by have := hg7.size; simpa using this
    have hlen2 : ws2.length = l.ws.length + 1 := by rw [hins.2, List.length_append, List.length_append, List.length_take, List.length_drop]; simp; omega
    have how : OwW (fun b => (P b ∧ b < w.heap.size) ∨ (w2.heap.size ≤ b ∧ b < w7.heap.size)) w4.heap.size w7 w7 A3 (l.ws.length + 1) c3 ws2 := by
      refine ⟨l2.take i ++ [(⟨t, now + l.period, 0, xs⟩, .slice A9 xs.length c9)] ++ l2.drop i, ?_, ?_, ?_, fun p hp => ?_⟩
      · rw [List.map_append, List.map_append, List.map_take, List.map_drop, HL2.out, hins.2]; rfl
      · rw [List.length_append, List.length_append, List.length_take, List.length_drop, HN2.out]; simp; omega
      · rw [cellsW_app, cellsW_app, ← cellsW_take, ← cellsW_drop]; exact ho7.out
      · have hpm : p ∈ l2 ∨ p = (⟨t, now + l.period, 0, xs⟩, .slice A9 xs.length c9) := by
          rcases List.mem_append.1 hp with h | h
          · rcases List.mem_append.1 h with h | h
            · exact .inl (List.mem_of_mem_take h)
            · exact .inr (List.mem_singleton.1 h)
          · exact .inl (List.mem_of_mem_drop h)
        rcases hpm with hpm | rfl
        · exact (((HPB.out p hpm).under hba).grownO hg7 (fun b hb => hb.2)).wide (fun b hb => hb.1.imp id fun h => ⟨by omega, by omega⟩)
        · exact ((HBY6.out.under hba).grownO hg7 (fun b hb e => by have := (HOW.out.lt _ e).1; omega)).wide (fun b hb => .inr ⟨hb.1, by omega⟩)
    obtain ⟨w8, hw8⟩ : ∃ w8, w7.setCell ⟨w.heap.size, 4, none⟩ (.slice A3 (l.ws.length + 1) c3) = w8 := ⟨_, rfl⟩
    have hg8 : w7.grownBy w8 (some (w.heap.size)) := by rw [← hw8]; exact only_store (only_refl _ _) rfl _
    have hp8 : Has w8 (w.heap.size) 24 #[.int .i64 l.period, .int .i64 l.most, .int .i64 l.quiet, .int .i64 l.heard, .slice A3 (l.ws.length + 1) c3] := by rw [← hw8]; exact (hp7.stored 4 _).is11 (by kernel_rfl)
    have hz8 := hz7.grow hg8 (by simp)
    have hb8 := below_only hb7 hg8 hb7.size (Nat.le_refl _)
    have hs8 := hg8.size
    have how8 := (how.move hg8 (by rintro (⟨_, h⟩ | ⟨h, _⟩) <;> omega) (fun e => by have := (how.lt e).1; omega)).wide (fun b hb => (show (P b ∧ b < w.heap.size) ∨ (w2.heap.size ≤ b ∧ b < w8.heap.size) from hb.imp id fun h => ⟨h.1, by omega⟩))
    have HP8 := Lib.hid hp8; have HW8 := Lib.hid hw8
    clear hp8 hw8 hg8 how hp7 hz7 hb7 hg7 hba
    have hg9 := only_row11 w8 (w.heap.size + 1) #[.int .i64 l.period, .int .i64 l.most, .int .i64 l.quiet, .int .i64 l.heard, .slice A3 (l.ws.length + 1) c3]
    have hG := HG6.out
    have ho9 := how8.move hg9 (by rintro (⟨_, h⟩ | ⟨h, _⟩) <;> omega) (fun e => by have := (how8.lt e).1; omega)
    have hb9 := below_row (g := w.heap.size + 1) hb8 (by omega) #[.int .i64 l.period, .int .i64 l.most, .int .i64 l.quiet, .int .i64 l.heard, .slice A3 (l.ws.length + 1) c3]
    have hb9s : (w8.setRow (w.heap.size + 1) #[.int .i64 l.period, .int .i64 l.most, .int .i64 l.quiet, .int .i64 l.heard, .slice A3 (l.ws.length + 1) c3]).heap.size = w8.heap.size := by simp
    have HS := Lib.hid (ho9.toWs (Q' := Nw P w (w8.setRow (w.heap.size + 1) #[.int .i64 l.period, .int .i64 l.most, .int .i64 l.quiet, .int .i64 l.heard, .slice A3 (l.ws.length + 1) c3])) (fun b hb => hb.elim (fun h => .inl h.1) (fun h => .inr ⟨by omega, by omega⟩)) (fun b h h2 => .inr ⟨by omega, h2⟩))
    have HR := Lib.hid (has_row11 hz8 #[.int .i64 l.period, .int .i64 l.most, .int .i64 l.quiet, .int .i64 l.heard, .slice A3 (l.ws.length + 1) c3])
    have HZL := Lib.hid hz8; have HBF := Lib.hid hb9
    clear hg9 ho9 hb9 hb9s hG
    have HLEN := Lib.hid hlen2
    clear hz8 hb8 how8 hs8 hins hlen2 hG hG2 hgn hs7 HI m4 ho7 k0 k1 k2 k3 hdue hdue2
    go_upto_region 11 with fail
    rw [HW8.out]
    clear HW8 m5 m5f
    go_wp2_with (first | (with_reducible refine wpList_load_row (o := ⟨some 65, _, _, _, _, _⟩) rfl 24 _ rfl (w.heap.size) rfl 24 #[.int .i64 l.period, .int .i64 l.most, .int .i64 l.quiet, .int .i64 l.heard, .slice A3 (l.ws.length + 1) c3] (0, 0) _ (HP8.out).raw11 Try.underlying24 rfl (by kernel_rfl) ?_) | (with_reducible refine wpList_store_rowTo (o := ⟨none, _, _, _, _, _⟩) rfl 24 _ _ rfl rfl (w.heap.size + 1) #[.int .i64 l.period, .int .i64 l.most, .int .i64 l.quiet, .int .i64 l.heard, .slice A3 (l.ws.length + 1) c3] rfl rfl 24 _ (HZL.out).raw11 (by kernel_rfl) (by kernel_rfl) (by kernel_rfl) ?_))
    refine bodyPost_ret (results_row_tmp11 rfl _ _ (w.heap.size + 1) 24 _ _ rfl HR.out Try.underlying24 rfl (by kernel_rfl)) rfl ?_
    exact ⟨A3, c3, by unfold lkC; dsimp only; rw [HLEN.out]; rfl, by rw [HLEN.out]; exact HS.out, HBF.out⟩
  refine AllReadyH.cons (o := ⟨some 12, _, _, _, _, _⟩) rfl (fun K hK => ?_) AllReadyH.nil
  go_simp
  obtain ⟨wm, hwm⟩ : ∃ wm, (w2.alloc (.cells #[.int .i64 0, .int .i64 0, .int .i64 0, .slice none 0 0] 48)).drew = wm := ⟨_, rfl⟩
  have hmk : Has wm w2.heap.size 48 #[.int .i64 0, .int .i64 0, .int .i64 0, .slice none 0 0] := by rw [← hwm]; exact (Has.made _ _ _).draw
  have hbm : Below w2.heap.size w2 wm := by rw [← hwm]; exact below_dr11 ((Below.refl _ _).alloc (Nat.le_refl _) _)
  have hsm : wm.heap.size = w2.heap.size + 1 := by rw [← hwm]; simp
  have hwm' := hwm
  skip
  have n1 : wm.cell? ⟨w.heap.size, 0, none⟩ = some (.int .i64 l.period) := (hbm.cell (cell_block m0)).trans m0
  first | rw [hwm] | skip
  refine hK.out _ _ ?_ (fun hHeld => ?_)
  · exact n1
  clear hK K
  try simp only [Act.put, List.setIfInBounds_toArray, List.set_cons_zero, List.set_cons_succ]
  refine wpAnyH_ready (rs := [6]) (by kernel_rfl) (by simp) ?_
  refine AllReadyH.cons (o := ⟨some 54, _, _, _, _, _⟩) rfl (fun K hK => ?_) AllReadyH.nil
  go_simp
  go_at_call 28
  refine (HCB.out _ hbm).mono ?_
  rintro e w3 ⟨A9, c9, rfl, ho9, hb9⟩
  go_wp2_with fail
  have hbm3 : Below wm.heap.size wm w3 := hb9.out
  have HO9 := Lib.hid ho9.out
  have n0 : w3.cell? ⟨w.heap.size, 0, none⟩ = some (.int .i64 l.period) := (hbm3.cell (cell_block n1)).trans n1
  refine hK.out _ _ ?_ (fun hHeld => ?_)
  · exact n0
  clear hK K ho9 hb9
  try simp only [Act.put, List.setIfInBounds_toArray, List.set_cons_zero, List.set_cons_succ]
  refine wpAnyH_take (i := 7) (oi := ⟨some 55, _, _, _, _, _⟩) (v := ?_) rfl (by kernel_rfl) (by kernel_rfl) (by kernel_rfl) (fun _ _ _ h => h) (Or.inl ⟨by rfl, ?_⟩) (by assumption) ?_
  rotate_left
  · intro w_ hSw; (try dsimp only at hSw); (obtain s0 := hSw); go_simp <;> with_reducible rfl
  simp only [Act.put, List.setIfInBounds_toArray, List.set_cons_zero, List.set_cons_succ]
  have hmk3 : Has w3 w2.heap.size 48 #[.int .i64 0, .int .i64 0, .int .i64 0, .slice none 0 0] := hmk.under hbm3 hmk.lt
  refine wpAnyH_ready (rs := [9]) (by kernel_rfl) (by simp) ?_
  refine AllReadyH.cons (o := ⟨none, _, _, _, _, _⟩) rfl (fun K hK => ?_) AllReadyH.nil
  rw [if_pos (by rfl)]
  refine wp_store_row 48 _ _ rfl (w2.heap.size) #[.int .i64 t, .int .i64 (now + l.period), .int .i64 0, .slice A9 xs.length c9] (by rfl) (by rfl) 48 _ (hmk3).raw11 (by kernel_rfl) (by kernel_rfl) (by kernel_rfl) ?_
  obtain ⟨w4, hw4⟩ : ∃ w4, w3.setRow w2.heap.size #[.int .i64 t, .int .i64 (now + l.period), .int .i64 0, .slice A9 xs.length c9] = w4 := ⟨_, rfl⟩
  rw [hw4]
  have hgw : Has w4 w2.heap.size 48 #[.int .i64 t, .int .i64 (now + l.period), .int .i64 0, .slice A9 xs.length c9] := by rw [← hw4]; exact has_row11 hmk3 _
  have hg34 : w3.grownBy w4 (some w2.heap.size) := by rw [← hw4]; exact only_row11 _ _ _
  have hb24 : Below w2.heap.size w2 w4 := below_only (hbm.trans (hbm3.mono hbm.size)) hg34 (Nat.le_trans hbm.size hbm3.size) (Nat.le_refl _)
  have n2 : w4.cell? ⟨w.heap.size, 0, none⟩ = some (.int .i64 l.period) := (hb24.cell (cell_block m0)).trans m0
  refine hK.out _ _ ?_ (fun hHeld => ?_)
  · exact n2
  clear hK K
  refine wpAnyH_done (by kernel_rfl) ?_ _
  have hs4 : w4.heap.size = w3.heap.size := by rw [← hw4]; simp
  have hs3 := hbm3.size
  have HBY : Hid (BodyR (fun b => w2.heap.size ≤ b ∧ b < w4.heap.size) w4 (.slice A9 xs.length c9) xs) := Lib.hid (((BodyR.own HO9.out H8.out).grown hg34 (by omega)).wide (fun b hb => ⟨by omega, by omega⟩))
  have HB24 := Lib.hid hb24
  obtain ⟨gw, hgw2⟩ : ∃ gw, w2.heap.size = gw := ⟨_, rfl⟩
  have hgwl := hgw.lt
  have HGN : Hid (w2.heap.size ≤ gw ∧ gw < w4.heap.size) := Lib.hid ⟨by omega, by omega⟩
  rw [show (⟨w2.heap.size, 0, none⟩ : Addr) = ⟨gw, 0, none⟩ by rw [hgw2]]
  have HGW : Hid (Has w4 gw 48 #[.int .i64 t, .int .i64 (now + l.period), .int .i64 0, .slice A9 xs.length c9]) := Lib.hid (hgw2 ▸ hgw)
  clear hgw hgwl hb24 hbm hbm3 hsm hg34 n0 n1 n2 hmk hmk3 hw4 hwm hwm' hs4 hs3 HO9 hgw2 hHeld m0
  have hgl0 : w.heap.size + 1 < w2.heap.size := HZ2.out.lt
  have HP4 := Lib.hid (HP2.out.under HB24.out HP2.out.lt); have HZ4 := Lib.hid (HZ2.out.under HB24.out HZ2.out.lt); have HW4 := Lib.hid (HW2.out.under HB24.out); have HB4 := Lib.hid (HB2.out.trans (HB24.out.mono HB2.out.size))
  have HS24 := Lib.hid (And.intro hgl0 HB24.out.size)
  clear HP2 HZ2 HW2 HB2 HB24 hgl0 HCB
  go_upto_region 9 with fail
  go_wp2_with (with_reducible refine wpList_load_row (o := ⟨some 56, _, _, _, _, _⟩) rfl 24 _ rfl (w.heap.size) rfl 24 (lkC l A c) (0, 0) _ (HP4.out).raw11 Try.underlying24 rfl (by kernel_rfl) ?_)
  refine (HCL.out _ HW4.out).mono ?_
  rintro e w5 ⟨A2, c2, rfl, ho5, hb5⟩
  have hp5 := HP4.out.under hb5 HP4.out.lt
  obtain ⟨w6, hw6⟩ : ∃ w6, w5.setRow (w.heap.size) (lkC l A2 c2) = w6 := ⟨_, rfl⟩
  have hg6 : w5.grownBy w6 (some (w.heap.size)) := by rw [← hw6]; exact only_row11 _ _ _
  have hp6 : Has w6 (w.heap.size) 24 (lkC l A2 c2) := by rw [← hw6]; exact has_row11 hp5 _
  have hz6 : Has w6 (w.heap.size + 1) 24 #[.int .i64 0, .int .i64 0, .int .i64 0, .int .i64 0, .slice none 0 0] := (HZ4.out.under hb5 HZ4.out.lt).grow hg6 (by simp)
  have hb6 : Below w.heap.size w w6 := below_only (HB4.out.trans (hb5.mono HB4.out.size)) hg6 (Nat.le_trans HB4.out.size hb5.size) (Nat.le_refl _)
  have hgl : w.heap.size + 1 < w4.heap.size := HZ4.out.lt
  have hs5 := hb5.size
  have hs6 := hg6.size
  have ho6 := ho5.move hg6 (by rintro ⟨⟨_, h⟩ | ⟨h, _⟩, _⟩ <;> omega) (fun e => by have := (ho5.lt e).1; omega)
  have ho6 := (ho6.wide (fun b (hb : Nw (fun b => P b ∧ b < w.heap.size) w4 w5 b ∧ Value.ownBlock (.slice A2 l.ws.length c2) ≠ some b) => (show ((P b ∧ b < w.heap.size) ∨ (w4.heap.size ≤ b ∧ b < w6.heap.size)) ∧ Value.ownBlock (.slice A2 l.ws.length c2) ≠ some b from ⟨hb.1.imp id fun h => ⟨h.1, by omega⟩, hb.2⟩)))
  have HGW6 := Lib.hid ((HGW.out.under hb5 HGW.out.lt).grow hg6 (by have := HGN.out; have := HS24.out; simp; omega))
  have HBY6 := Lib.hid ((HBY.out.under hb5).grown hg6 (by have := HS24.out; omega))
  have HP6 := Lib.hid hp6; have HZ6 := Lib.hid hz6; have HO6 := Lib.hid ho6; have HB6 := Lib.hid hb6; have HW6 := Lib.hid hw6; have HG6 := Lib.hid (And.intro hgl (Nat.le_trans hs5 hs6)); have HP5 := Lib.hid hp5
  clear hp5 hw6 hg6 hp6 hz6 hb6 hgl hs5 hs6 ho6 ho5 hb5 HP4 HZ4 HW4 HB4 HCL
  go_upto_region 10 with (with_reducible refine wpList_store_rowTo (o := ⟨none, _, _, _, _, _⟩) rfl 24 _ _ rfl rfl (w.heap.size) (lkC l A2 c2) rfl rfl 24 _ (HP5.out).raw11 (by kernel_rfl) (by kernel_rfl) (by kernel_rfl) ?_)
  rw [HW6.out]
  clear HW6 HP5
  have hn8 := HMS.out.1
  obtain ⟨l2, hl2, hn2, ho2, hp2⟩ := HO6.out
  have hins := HINS.out
  have hG := HG6.out
  have hG2 := HS24.out
  have hv : Has (w6.alloc (.cells #[.int .i64 t, .int .i64 (now + l.period), .int .i64 0, .slice A9 xs.length c9] 48)) w6.heap.size 48 ([.int .i64 t, .int .i64 (now + l.period), .int .i64 0, .slice A9 xs.length c9] : List Value).toArray := Has.made _ _ _
  have hI := oins_any w4.heap.size A2 l.ws.length c2 i w6.heap.size 1 (cellsW l2) [.int .i64 t, .int .i64 (now + l.period), .int .i64 0, .slice A9 xs.length c9] (w6.alloc (.cells #[.int .i64 t, .int .i64 (now + l.period), .int .i64 0, .slice A9 xs.length c9] 48)) (ho2.alloc _) hins.1 (by omega) (by simp; omega) hv rfl (by intro u hu; simp only [List.mem_cons, List.not_mem_nil, or_false] at hu; rcases hu with rfl | rfl | rfl | rfl <;> rfl) (bodies_one12 hp2) (fun e => by have := (ho2.lt _ e).2; omega)
  have HI := Lib.hid hI
  have HL2 := Lib.hid hl2; have HN2 := Lib.hid hn2; have HPB := Lib.hid hp2; have HOW := Lib.hid ho2
  have m4 : w6.cell? ⟨w.heap.size, 4, none⟩ = some (.slice A2 l.ws.length c2) := HP6.out.cell 4
  have k0 : w6.cell? ⟨gw, 0, none⟩ = some (.int .i64 t) := HGW6.out.cell 0
  have k1 : w6.cell? ⟨gw, 1, none⟩ = some (.int .i64 (now + l.period)) := HGW6.out.cell 1
  have k2 : w6.cell? ⟨gw, 2, none⟩ = some (.int .i64 0) := HGW6.out.cell 2
  have k3 : w6.cell? ⟨gw, 3, none⟩ = some (.slice A9 xs.length c9) := HGW6.out.cell 3
  clear hl2 hn2 ho2 hp2 hI hv HO6 hG hG2 hins hn8
  go_wp2_with fail
  refine HI.out.mono ?_
  rintro e w7 ⟨A3, c3, rfl, ho7, hg7⟩
  have hg7 := hg7.out; have hins := HINS.out; have hG := HG6.out; have hG2 := HS24.out; have hgn := HGN.out
  have hba : Below w6.heap.size w6 (w6.alloc (.cells #[.int .i64 t, .int .i64 (now + l.period), .int .i64 0, .slice A9 xs.length c9] 48)) := (Below.refl _ _).alloc (Nat.le_refl _) _
  have hp7 : Has w7 (w.heap.size) 24 (lkC l A2 c2) := (HP6.out.beside _).grow hg7 (fun e => by have := (HOW.out.lt _ e.symm).1; omega)
  have hz7 : Has w7 (w.heap.size + 1) 24 #[.int .i64 0, .int .i64 0, .int .i64 0, .int .i64 0, .slice none 0 0] := (HZ6.out.beside _).grow hg7 (fun e => by have := (HOW.out.lt _ e.symm).1; omega)
  have hb7 : Below w.heap.size w w7 := below_own (HB6.out.alloc HB6.out.size _) (by have := HB6.out.size; simp; omega) (HOW.out.alloc _) (by omega) rfl hg7
  have m5 : w7.cell? ⟨w.heap.size, 4, none⟩ = some (.slice A2 l.ws.length c2) := hp7.cell 4
  have m5f := hp7.thaw 4
  have hs7 : w6.heap.size + 1 ≤ w7.heap.size := by have := hg7.size; simpa using this
  have hlen2 : ws2.length = l.ws.length + 1 := by rw [hins.2, List.length_append, List.length_append, List.length_take, List.length_drop]; simp; omega
  have how : OwW (fun b => (P b ∧ b < w.heap.size) ∨ (w2.heap.size ≤ b ∧ b < w7.heap.size)) w4.heap.size w7 w7 A3 (l.ws.length + 1) c3 ws2 := by
    refine ⟨l2.take i ++ [(⟨t, now + l.period, 0, xs⟩, .slice A9 xs.length c9)] ++ l2.drop i, ?_, ?_, ?_, fun p hp => ?_⟩
    · rw [List.map_append, List.map_append, List.map_take, List.map_drop, HL2.out, hins.2]; rfl
    · rw [List.length_append, List.length_append, List.length_take, List.length_drop, HN2.out]; simp; omega
    · rw [cellsW_app, cellsW_app, ← cellsW_take, ← cellsW_drop]; exact ho7.out
    · have hpm : p ∈ l2 ∨ p = (⟨t, now + l.period, 0, xs⟩, .slice A9 xs.length c9) := by
        rcases List.mem_append.1 hp with h | h
        · rcases List.mem_append.1 h with h | h
          · exact .inl (List.mem_of_mem_take h)
          · exact .inr (List.mem_singleton.1 h)
        · exact .inl (List.mem_of_mem_drop h)
      rcases hpm with hpm | rfl
      · exact (((HPB.out p hpm).under hba).grownO hg7 (fun b hb => hb.2)).wide (fun b hb => hb.1.imp id fun h => ⟨by omega, by omega⟩)
      · exact ((HBY6.out.under hba).grownO hg7 (fun b hb e => by have := (HOW.out.lt _ e).1; omega)).wide (fun b hb => .inr ⟨hb.1, by omega⟩)
  obtain ⟨w8, hw8⟩ : ∃ w8, w7.setCell ⟨w.heap.size, 4, none⟩ (.slice A3 (l.ws.length + 1) c3) = w8 := ⟨_, rfl⟩
  have hg8 : w7.grownBy w8 (some (w.heap.size)) := by rw [← hw8]; exact only_store (only_refl _ _) rfl _
  have hp8 : Has w8 (w.heap.size) 24 #[.int .i64 l.period, .int .i64 l.most, .int .i64 l.quiet, .int .i64 l.heard, .slice A3 (l.ws.length + 1) c3] := by rw [← hw8]; exact (hp7.stored 4 _).is11 (by kernel_rfl)
  have hz8 := hz7.grow hg8 (by simp)
  have hb8 := below_only hb7 hg8 hb7.size (Nat.le_refl _)
  have hs8 := hg8.size
  have how8 := (how.move hg8 (by rintro (⟨_, h⟩ | ⟨h, _⟩) <;> omega) (fun e => by have := (how.lt e).1; omega)).wide (fun b hb => (show (P b ∧ b < w.heap.size) ∨ (w2.heap.size ≤ b ∧ b < w8.heap.size) from hb.imp id fun h => ⟨h.1, by omega⟩))
  have HP8 := Lib.hid hp8; have HW8 := Lib.hid hw8
  clear hp8 hw8 hg8 how hp7 hz7 hb7 hg7 hba
  have hg9 := only_row11 w8 (w.heap.size + 1) #[.int .i64 l.period, .int .i64 l.most, .int .i64 l.quiet, .int .i64 l.heard, .slice A3 (l.ws.length + 1) c3]
  have hG := HG6.out
  have ho9 := how8.move hg9 (by rintro (⟨_, h⟩ | ⟨h, _⟩) <;> omega) (fun e => by have := (how8.lt e).1; omega)
  have hb9 := below_row (g := w.heap.size + 1) hb8 (by omega) #[.int .i64 l.period, .int .i64 l.most, .int .i64 l.quiet, .int .i64 l.heard, .slice A3 (l.ws.length + 1) c3]
  have hb9s : (w8.setRow (w.heap.size + 1) #[.int .i64 l.period, .int .i64 l.most, .int .i64 l.quiet, .int .i64 l.heard, .slice A3 (l.ws.length + 1) c3]).heap.size = w8.heap.size := by simp
  have HS := Lib.hid (ho9.toWs (Q' := Nw P w (w8.setRow (w.heap.size + 1) #[.int .i64 l.period, .int .i64 l.most, .int .i64 l.quiet, .int .i64 l.heard, .slice A3 (l.ws.length + 1) c3])) (fun b hb => hb.elim (fun h => .inl h.1) (fun h => .inr ⟨by omega, by omega⟩)) (fun b h h2 => .inr ⟨by omega, h2⟩))
  have HR := Lib.hid (has_row11 hz8 #[.int .i64 l.period, .int .i64 l.most, .int .i64 l.quiet, .int .i64 l.heard, .slice A3 (l.ws.length + 1) c3])
  have HZL := Lib.hid hz8; have HBF := Lib.hid hb9
  clear hg9 ho9 hb9 hb9s hG
  have HLEN := Lib.hid hlen2
  clear hz8 hb8 how8 hs8 hins hlen2 hG hG2 hgn hs7 HI m4 ho7 k0 k1 k2 k3 hdue hdue2
  go_upto_region 11 with fail
  rw [HW8.out]
  clear HW8 m5 m5f
  go_wp2_with (first | (with_reducible refine wpList_load_row (o := ⟨some 65, _, _, _, _, _⟩) rfl 24 _ rfl (w.heap.size) rfl 24 #[.int .i64 l.period, .int .i64 l.most, .int .i64 l.quiet, .int .i64 l.heard, .slice A3 (l.ws.length + 1) c3] (0, 0) _ (HP8.out).raw11 Try.underlying24 rfl (by kernel_rfl) ?_) | (with_reducible refine wpList_store_rowTo (o := ⟨none, _, _, _, _, _⟩) rfl 24 _ _ rfl rfl (w.heap.size + 1) #[.int .i64 l.period, .int .i64 l.most, .int .i64 l.quiet, .int .i64 l.heard, .slice A3 (l.ws.length + 1) c3] rfl rfl 24 _ (HZL.out).raw11 (by kernel_rfl) (by kernel_rfl) (by kernel_rfl) ?_))
  refine bodyPost_ret (results_row_tmp11 rfl _ _ (w.heap.size + 1) 24 _ _ rfl HR.out Try.underlying24 rfl (by kernel_rfl)) rfl ?_
  exact ⟨A3, c3, by unfold lkC; dsimp only; rw [HLEN.out]; rfl, by rw [HLEN.out]; exact HS.out, HBF.out⟩
end Go.Proofs.Ytbohoejikihnfaa
