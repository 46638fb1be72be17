/-
  stamp: New and Take, the program's and the document's own; the closure of the window.
-/
import Derived.Test.YtjfndnpjcicogaaSpB
import Derived.BigQuiet
namespace Go.Proofs.Ytjfndnpjcicogaa
open Go.RowKit
open Go.Great

set_option maxRecDepth 100000 in
set_option maxHeartbeats 2000000 in
theorem new_any (a b : Int) (w : World) :
    Calls Try.prog 15 #[.int .i64 a, .int .i64 b] w fun e w' => e = .returned (stE (newS a b) (newE a b)) ∧ Below w.heap.size w w' := by
  obtain ⟨wa, hwa⟩ : ∃ wa, (w.alloc (.cells #[.int .i64 0, .int .i64 0, .int .i64 0, .bool false] 23)).alloc (.cells #[.int .i64 (-1), .int .i64 a, .int .i64 b, .bool false] 23) = wa := ⟨_, rfl⟩
  have hbwa : Below w.heap.size w wa := by rw [← hwa]; exact ((Below.refl _ _).alloc (Nat.le_refl _) _).alloc (by simp) _
  have h0 : Has wa (w.heap.size) 23 #[.int .i64 0, .int .i64 0, .int .i64 0, .bool false] := by rw [← hwa]; exact ((Has.made _ _ _).beside _)
  have h1 : Has wa (w.heap.size + 1) 23 #[.int .i64 (-1), .int .i64 a, .int .i64 b, .bool false] := by rw [← hwa]; exact (has_at11 (by simp))
  have HWA := Lib.hid hwa; have HBWA := Lib.hid hbwa
  have HM := Lib.hid (fun W => may_any ⟨-1, a, b, false⟩ W)
  have HC := Lib.hid (fun W (hW : Below wa.heap.size wa W) => And.intro (h0.under hW h0.lt) (h1.under hW h1.lt))
  have HQ := Lib.hid h1
  have hm : mayS ⟨-1, a, b, false⟩ = (isT a && isT b) := by
    unfold mayS
    rw [show isT (-1) = false from rfl, show ((-1 : Int) == -1) = true from rfl]
    simp
  have hs : newS a b = if (isT a && isT b) = true then ⟨-1, a, b, false⟩ else stp0 := by
    unfold newS; simp only [Bool.and_eq_true]
  have he : newE a b = if (isT a && isT b) = true then 0 else 1 := by
    unfold newE; simp only [Bool.and_eq_true]
  rw [hm] at HM
  rw [hs, he]
  clear hm hs he hwa hbwa h0 h1
  generalize (isT a && isT b) = m at *
  have HM1 : Hid (∀ W, Calls Try.prog 11 #[.agg #[.int .i64 (-1), .int .i64 a, .int .i64 b, .bool false]] W fun e w' => e = .returned (.bool m) ∧ Below W.heap.size W w') := HM
  clear HM
  unfold stE stV stA
  cases m with
  | false =>
    rw [if_neg (by decide), if_neg (by decide)]
    go_enter Try.func15, Try.ntmps15
    go_upto_region 2 with fail
    rw [HWA.out]
    go_wp2_with (with_reducible refine wpList_load_row (o := ⟨some 10, _, _, _, _, _⟩) rfl 23 _ rfl (w.heap.size + 1) rfl 23 #[.int .i64 (-1), .int .i64 a, .int .i64 b, .bool false] (0, 0) _ (HQ.out).raw11 Try.underlying23 rfl (by kernel_rfl) ?_)
    refine (HM1.out _).mono ?_
    rintro e w1 ⟨rfl, hb1⟩
    obtain ⟨hz, hq⟩ := HC.out w1 hb1
    have HZ := Lib.hid hz; have HQ1 := Lib.hid hq
    have HR := Lib.hid (has_row11 hz #[.int .i64 0, .int .i64 0, .int .i64 0, .bool false])
    have HBF := Lib.hid (below_row (g := w.heap.size) (HBWA.out.trans (hb1.mono HBWA.out.size)) (Nat.le_refl _) #[.int .i64 0, .int .i64 0, .int .i64 0, .bool false])
    clear hz hq hb1 HC HQ HM1 HWA HBWA
    go_wp2_with (first | (with_reducible refine wpList_load_row (o := ⟨some 14, _, _, _, _, _⟩) rfl 23 _ rfl (w.heap.size + 1) rfl 23 #[.int .i64 (-1), .int .i64 a, .int .i64 b, .bool false] (0, 0) _ (HQ1.out).raw11 Try.underlying23 rfl (by kernel_rfl) ?_) | (with_reducible refine wpList_store_rowTo (o := ⟨none, _, _, _, _, _⟩) rfl 23 _ _ rfl rfl (w.heap.size) #[.int .i64 0, .int .i64 0, .int .i64 0, .bool false] rfl rfl 23 _ (HZ.out).raw11 (by kernel_rfl) (by kernel_rfl) (by kernel_rfl) ?_))
    refine bodyPost_ret (results_row_tmp11 rfl _ _ (w.heap.size) 23 _ _ rfl HR.out Try.underlying23 rfl (by kernel_rfl)) rfl ?_
    exact ⟨rfl, HBF.out⟩
  | true =>
    rw [if_pos rfl, if_pos rfl]
    go_enter Try.func15, Try.ntmps15
    go_upto_region 2 with fail
    rw [HWA.out]
    go_wp2_with (with_reducible refine wpList_load_row (o := ⟨some 10, _, _, _, _, _⟩) rfl 23 _ rfl (w.heap.size + 1) rfl 23 #[.int .i64 (-1), .int .i64 a, .int .i64 b, .bool false] (0, 0) _ (HQ.out).raw11 Try.underlying23 rfl (by kernel_rfl) ?_)
    refine (HM1.out _).mono ?_
    rintro e w1 ⟨rfl, hb1⟩
    obtain ⟨hz, hq⟩ := HC.out w1 hb1
    have HZ := Lib.hid hz; have HQ1 := Lib.hid hq
    have HR := Lib.hid (has_row11 hz #[.int .i64 (-1), .int .i64 a, .int .i64 b, .bool false])
    have HBF := Lib.hid (below_row (g := w.heap.size) (HBWA.out.trans (hb1.mono HBWA.out.size)) (Nat.le_refl _) #[.int .i64 (-1), .int .i64 a, .int .i64 b, .bool false])
    clear hz hq hb1 HC HQ HM1 HWA HBWA
    go_wp2_with (first | (with_reducible refine wpList_load_row (o := ⟨some 14, _, _, _, _, _⟩) rfl 23 _ rfl (w.heap.size + 1) rfl 23 #[.int .i64 (-1), .int .i64 a, .int .i64 b, .bool false] (0, 0) _ (HQ1.out).raw11 Try.underlying23 rfl (by kernel_rfl) ?_) | (with_reducible refine wpList_store_rowTo (o := ⟨none, _, _, _, _, _⟩) rfl 23 _ _ rfl rfl (w.heap.size) #[.int .i64 (-1), .int .i64 a, .int .i64 b, .bool false] rfl rfl 23 _ (HZ.out).raw11 (by kernel_rfl) (by kernel_rfl) (by kernel_rfl) ?_))
    refine bodyPost_ret (results_row_tmp11 rfl _ _ (w.heap.size) 23 _ _ rfl HR.out Try.underlying23 rfl (by kernel_rfl)) rfl ?_
    exact ⟨rfl, HBF.out⟩

set_option maxRecDepth 100000 in
set_option maxHeartbeats 2000000 in
theorem rnew_any (a b : Int) (w : World) :
    Calls Try.prog 16 #[.int .i64 a, .int .i64 b] w fun e w' => e = .returned (stE (newS a b) (newE a b)) ∧ Below w.heap.size w w' := by
  obtain ⟨wa, hwa⟩ : ∃ wa, w.alloc (.cells #[.int .i64 0, .int .i64 0, .int .i64 0, .bool false] 23) = wa := ⟨_, rfl⟩
  have hbwa : Below w.heap.size w wa := by rw [← hwa]; exact (Below.refl _ _).alloc (Nat.le_refl _) _
  have h0 : Has wa (w.heap.size) 23 #[.int .i64 0, .int .i64 0, .int .i64 0, .bool false] := by rw [← hwa]; exact (Has.made _ _ _)
  have HWA := Lib.hid hwa; have HBWA := Lib.hid hbwa
  have H1 := Lib.hid (rtime_any a wa)
  have H2 := Lib.hid (rtime_any b wa)
  have hs : newS a b = if (isT a && isT b) = true then ⟨-1, a, b, false⟩ else stp0 := by
    unfold newS; simp only [Bool.and_eq_true]
  have he : newE a b = if (isT a && isT b) = true then 0 else 1 := by
    unfold newE; simp only [Bool.and_eq_true]
  rw [hs, he]
  have HZ := Lib.hid h0
  have HR0 := Lib.hid (has_row11 h0 #[.int .i64 0, .int .i64 0, .int .i64 0, .bool false]); have HR1 := Lib.hid (has_row11 h0 #[.int .i64 (-1), .int .i64 a, .int .i64 b, .bool false])
  have HF0 := Lib.hid (below_row (g := w.heap.size) hbwa (Nat.le_refl _) #[.int .i64 0, .int .i64 0, .int .i64 0, .bool false]); have HF1 := Lib.hid (below_row (g := w.heap.size) hbwa (Nat.le_refl _) #[.int .i64 (-1), .int .i64 a, .int .i64 b, .bool false])
  clear hs he hwa hbwa h0
  generalize isT a = m1 at *
  generalize isT b = m2 at *
  unfold stE stV stA
  cases m1 with
  | false =>
    rw [if_neg (by simp), if_neg (by simp)]
    have HR := HR0; have HBF := HF0
    go_enter Try.func16, Try.ntmps16
    go_upto_region 1 with fail
    rw [HWA.out]
    clear HWA
    go_wp2_with fail
    refine H1.out.mono ?_
    rintro e w' ⟨rfl, rfl⟩
    go_wp2_with fail
    refine H2.out.mono ?_
    rintro e w' ⟨rfl, rfl⟩
    go_wp2_with (with_reducible refine wpList_store_rowTo (o := ⟨none, _, _, _, _, _⟩) rfl 23 _ _ rfl rfl (w.heap.size) #[.int .i64 0, .int .i64 0, .int .i64 0, .bool false] rfl rfl 23 _ (HZ.out).raw11 (by kernel_rfl) (by kernel_rfl) (by kernel_rfl) ?_)
    refine bodyPost_ret (results_row_tmp11 rfl _ _ (w.heap.size) 23 _ _ rfl HR.out Try.underlying23 rfl (by kernel_rfl)) rfl ?_
    exact ⟨rfl, HBF.out⟩
  | true =>
    cases m2 with
    | false =>
      rw [if_neg (by simp), if_neg (by simp)]
      have HR := HR0; have HBF := HF0
      go_enter Try.func16, Try.ntmps16
      go_upto_region 1 with fail
      rw [HWA.out]
      clear HWA
      go_wp2_with fail
      refine H1.out.mono ?_
      rintro e w' ⟨rfl, rfl⟩
      go_wp2_with fail
      refine H2.out.mono ?_
      rintro e w' ⟨rfl, rfl⟩
      go_wp2_with (with_reducible refine wpList_store_rowTo (o := ⟨none, _, _, _, _, _⟩) rfl 23 _ _ rfl rfl (w.heap.size) #[.int .i64 0, .int .i64 0, .int .i64 0, .bool false] rfl rfl 23 _ (HZ.out).raw11 (by kernel_rfl) (by kernel_rfl) (by kernel_rfl) ?_)
      refine bodyPost_ret (results_row_tmp11 rfl _ _ (w.heap.size) 23 _ _ rfl HR.out Try.underlying23 rfl (by kernel_rfl)) rfl ?_
      exact ⟨rfl, HBF.out⟩
    | true =>
      rw [if_pos (by decide), if_pos (by decide)]
      have HR := HR1; have HBF := HF1
      go_enter Try.func16, Try.ntmps16
      go_upto_region 1 with fail
      rw [HWA.out]
      clear HWA
      go_wp2_with fail
      refine H1.out.mono ?_
      rintro e w' ⟨rfl, rfl⟩
      go_wp2_with fail
      refine H2.out.mono ?_
      rintro e w' ⟨rfl, rfl⟩
      go_wp2_with (with_reducible refine wpList_store_rowTo (o := ⟨none, _, _, _, _, _⟩) rfl 23 _ _ rfl rfl (w.heap.size) #[.int .i64 (-1), .int .i64 a, .int .i64 b, .bool false] rfl rfl 23 _ (HZ.out).raw11 (by kernel_rfl) (by kernel_rfl) (by kernel_rfl) ?_)
      refine bodyPost_ret (results_row_tmp11 rfl _ _ (w.heap.size) 23 _ _ rfl HR.out Try.underlying23 rfl (by kernel_rfl)) rfl ?_
      exact ⟨rfl, HBF.out⟩

set_option maxRecDepth 100000 in
set_option maxHeartbeats 2000000 in
theorem window_any (s : Stp) (w : World) :
    Calls Try.prog 20 #[stV s] w fun e w' => e = .returned (.func (.func 22) #[] #[.pointer (some ⟨w.heap.size, 0, none⟩)]) ∧ w.alloc (.cells (stA s) 23) = w' := by
  unfold stV
  go_enter Try.func20, Try.ntmps20
  go_wp2
  go_ret
  exact ⟨rfl, rfl⟩

set_option maxRecDepth 100000 in
set_option maxHeartbeats 2000000 in
theorem windowed_any (s : Stp) (now : Int) (f1 f2 : Int) (g : Nat) (w : World) (h : Has w g 23 (stA s)) (hr1 : wrap64 (now - s.behind) = f1) (hr2 : wrap64 (now + s.ahead) = f2) :
    Calls Try.prog 22 #[.int .i64 now, .pointer (some ⟨g, 0, none⟩)] w fun e w' => e = .returned (pairI f1 f2) ∧ Below w.heap.size w w' := by
  have c1 : w.cell? ⟨g, 1, none⟩ = some (.int .i64 s.ahead) := (h).cell 1
  have c2 : w.cell? ⟨g, 2, none⟩ = some (.int .i64 s.behind) := (h).cell 2
  clear h
  unfold pairI
  go_enter Try.func22, Try.ntmps22
  go_upto_region 1 with fail
  go_quiet (fail)
  go_wp2
  go_ret2
  exact ⟨by rw [← hr1, ← hr2]; rfl, below_draws (Below.refl _ _) _⟩

theorem take_bad (s : Stp) (t now : Int) (h : fitB s t now = false) : takeS s t now = stp0 ∧ takeE s t now = 1 := by
  have e : takeE s t now = 1 := by unfold takeE; rw [h]; rfl
  exact ⟨by unfold takeS; rw [e]; rfl, e⟩
theorem take_stale (s : Stp) (t now : Int) (h : fitB s t now = true) (hs : stale s t now) : takeS s t now = stp0 ∧ takeE s t now = 110 := by
  have e : takeE s t now = 110 := by unfold takeE; rw [h, if_pos rfl, if_pos hs]
  exact ⟨by unfold takeS; rw [e]; rfl, e⟩
theorem take_ok (s : Stp) (t now : Int) (h : fitB s t now = true) (hs : ¬ stale s t now) : takeS s t now = ⟨t, s.ahead, s.behind, false⟩ ∧ takeE s t now = 0 := by
  have e : takeE s t now = 0 := by unfold takeE; rw [h, if_pos rfl, if_neg hs]
  exact ⟨by unfold takeS; rw [e]; rfl, e⟩
/-- What may be: its numbers. -/
theorem fit_nums {s : Stp} {t now : Int} (h : fitB s t now = true) : (0 ≤ s.ahead ∧ s.ahead ≤ 4294967294) ∧ (0 ≤ s.behind ∧ s.behind ≤ 4294967294) ∧ (-1 ≤ s.last ∧ s.last ≤ 4294967294) ∧ (0 ≤ t ∧ t ≤ 4294967294) ∧ (0 ≤ now ∧ now ≤ 4294967294) := by
  simp only [fitB, mayS, isT, Bool.and_eq_true, Bool.or_eq_true, decide_eq_true_eq, beq_iff_eq] at h
  omega

set_option maxRecDepth 100000 in
set_option maxHeartbeats 2000000 in
theorem take_any (s : Stp) (t now : Int) (w : World) :
    Calls Try.prog 9 #[stV s, .int .i64 t, .int .i64 now] w fun e w' => e = .returned (stE (takeS s t now) (takeE s t now)) ∧ Below w.heap.size w w' := by
  obtain ⟨wa, hwa⟩ : ∃ wa, (w.alloc (.cells (stA s) 23)).alloc (.cells #[.int .i64 0, .int .i64 0, .int .i64 0, .bool false] 23) = wa := ⟨_, rfl⟩
  have hbwa : Below w.heap.size w wa := by rw [← hwa]; exact ((Below.refl _ _).alloc (Nat.le_refl _) _).alloc (by simp) _
  have h0 : Has wa (w.heap.size) 23 (stA s) := by rw [← hwa]; exact ((Has.made _ _ _).beside _)
  have h1 : Has wa (w.heap.size + 1) 23 #[.int .i64 0, .int .i64 0, .int .i64 0, .bool false] := by rw [← hwa]; exact (has_at11 (by simp))
  have HWA := Lib.hid hwa; have HBWA := Lib.hid hbwa
  have HM := Lib.hid (fun W => may_any s W)
  have HC := Lib.hid (fun W (hW : Below wa.heap.size wa W) => And.intro (h0.under hW h0.lt) (h1.under hW h1.lt))
  have H1 := Lib.hid (fun W => time_any t W)
  have H2 := Lib.hid (fun W => time_any now W)
  have HP := Lib.hid h0
  clear hwa hbwa h0 h1
  by_cases hf : fitB s t now = true
  rotate_left
  · rw [Bool.not_eq_true] at hf
    obtain ⟨e1, e2⟩ := take_bad s t now hf
    rw [e1, e2]
    unfold fitB at hf
    generalize mayS s = m1 at *
    generalize isT t = m2 at *
    generalize isT now = m3 at *
    clear e1 e2
    unfold stE stV
    cases m1 with
    | false =>
      go_enter Try.func9, Try.ntmps9
      go_upto_region 1 with fail
      rw [HWA.out]
      clear HWA
      go_wp2_with (with_reducible refine wpList_load_row (o := ⟨some 10, _, _, _, _, _⟩) rfl 23 _ rfl (w.heap.size) rfl 23 (stA s) (0, 0) _ (HP.out).raw11 Try.underlying23 rfl (by kernel_rfl) ?_)
      refine (HM.out _).mono ?_
      rintro e w1 ⟨rfl, hb1⟩
      obtain ⟨hp, hz⟩ := HC.out w1 hb1
      have HP1 := Lib.hid hp; have HZ1 := Lib.hid hz
      have HB1 := Lib.hid (HBWA.out.trans (hb1.mono HBWA.out.size))
      clear hp hz hb1 HP HC HM HBWA
      have HR := Lib.hid (has_row11 HZ1.out #[.int .i64 0, .int .i64 0, .int .i64 0, .bool false])
      have HBF := Lib.hid (below_row (g := w.heap.size + 1) HB1.out (by omega) #[.int .i64 0, .int .i64 0, .int .i64 0, .bool false])
      go_wp2_with (with_reducible refine wpList_store_rowTo (o := ⟨none, _, _, _, _, _⟩) rfl 23 _ _ rfl rfl (w.heap.size + 1) #[.int .i64 0, .int .i64 0, .int .i64 0, .bool false] rfl rfl 23 _ (HZ1.out).raw11 (by kernel_rfl) (by kernel_rfl) (by kernel_rfl) ?_)
      refine bodyPost_ret (results_row_tmp11 rfl _ _ (w.heap.size + 1) 23 _ _ rfl HR.out Try.underlying23 rfl (by kernel_rfl)) rfl ?_
      exact ⟨rfl, HBF.out⟩
    | true =>
      cases m2 with
      | false =>
        go_enter Try.func9, Try.ntmps9
        go_upto_region 1 with fail
        rw [HWA.out]
        clear HWA
        go_wp2_with (with_reducible refine wpList_load_row (o := ⟨some 10, _, _, _, _, _⟩) rfl 23 _ rfl (w.heap.size) rfl 23 (stA s) (0, 0) _ (HP.out).raw11 Try.underlying23 rfl (by kernel_rfl) ?_)
        refine (HM.out _).mono ?_
        rintro e w1 ⟨rfl, hb1⟩
        obtain ⟨hp, hz⟩ := HC.out w1 hb1
        have HP1 := Lib.hid hp; have HZ1 := Lib.hid hz
        have HB1 := Lib.hid (HBWA.out.trans (hb1.mono HBWA.out.size))
        clear hp hz hb1 HP HC HM HBWA
        go_wp2_with fail
        refine (H1.out _).mono ?_
        rintro e w' ⟨rfl, rfl⟩
        have HR := Lib.hid (has_row11 HZ1.out #[.int .i64 0, .int .i64 0, .int .i64 0, .bool false])
        have HBF := Lib.hid (below_row (g := w.heap.size + 1) HB1.out (by omega) #[.int .i64 0, .int .i64 0, .int .i64 0, .bool false])
        go_wp2_with (with_reducible refine wpList_store_rowTo (o := ⟨none, _, _, _, _, _⟩) rfl 23 _ _ rfl rfl (w.heap.size + 1) #[.int .i64 0, .int .i64 0, .int .i64 0, .bool false] rfl rfl 23 _ (HZ1.out).raw11 (by kernel_rfl) (by kernel_rfl) (by kernel_rfl) ?_)
        refine bodyPost_ret (results_row_tmp11 rfl _ _ (w.heap.size + 1) 23 _ _ rfl HR.out Try.underlying23 rfl (by kernel_rfl)) rfl ?_
        exact ⟨rfl, HBF.out⟩
      | true =>
        cases m3 with
        | false =>
          go_enter Try.func9, Try.ntmps9
          go_upto_region 1 with fail
          rw [HWA.out]
          clear HWA
          go_wp2_with (with_reducible refine wpList_load_row (o := ⟨some 10, _, _, _, _, _⟩) rfl 23 _ rfl (w.heap.size) rfl 23 (stA s) (0, 0) _ (HP.out).raw11 Try.underlying23 rfl (by kernel_rfl) ?_)
          refine (HM.out _).mono ?_
          rintro e w1 ⟨rfl, hb1⟩
          obtain ⟨hp, hz⟩ := HC.out w1 hb1
          have HP1 := Lib.hid hp; have HZ1 := Lib.hid hz
          have HB1 := Lib.hid (HBWA.out.trans (hb1.mono HBWA.out.size))
          clear hp hz hb1 HP HC HM HBWA
          go_wp2_with fail
          refine (H1.out _).mono ?_
          rintro e w' ⟨rfl, rfl⟩
          go_wp2_with fail
          refine (H2.out _).mono ?_
          rintro e w' ⟨rfl, rfl⟩
          have HR := Lib.hid (has_row11 HZ1.out #[.int .i64 0, .int .i64 0, .int .i64 0, .bool false])
          have HBF := Lib.hid (below_row (g := w.heap.size + 1) HB1.out (by omega) #[.int .i64 0, .int .i64 0, .int .i64 0, .bool false])
          go_wp2_with (with_reducible refine wpList_store_rowTo (o := ⟨none, _, _, _, _, _⟩) rfl 23 _ _ rfl rfl (w.heap.size + 1) #[.int .i64 0, .int .i64 0, .int .i64 0, .bool false] rfl rfl 23 _ (HZ1.out).raw11 (by kernel_rfl) (by kernel_rfl) (by kernel_rfl) ?_)
          refine bodyPost_ret (results_row_tmp11 rfl _ _ (w.heap.size + 1) 23 _ _ rfl HR.out Try.underlying23 rfl (by kernel_rfl)) rfl ?_
          exact ⟨rfl, HBF.out⟩
        | true => exact absurd hf (by decide)
  have hn := fit_nums hf
  obtain ⟨f1, hf1⟩ : ∃ f1, now - s.behind = f1 := ⟨_, rfl⟩
  obtain ⟨f2, hf2⟩ : ∃ f2, now + s.ahead = f2 := ⟨_, rfl⟩
  have hr1 : wrap64 (now - s.behind) = f1 := by rw [← hf1]; exact IntWalk.wrap64_in _ (by omega)
  have hr2 : wrap64 (now + s.ahead) = f2 := by rw [← hf2]; exact IntWalk.wrap64_in _ (by omega)
  have hst : stale s t now ↔ (t < f1 ∨ f2 < t ∨ (s.free = false ∧ t ≤ s.last)) := by unfold stale; rw [hf1, hf2]
  obtain ⟨⟨hm1, hm2⟩, hm3⟩ : (mayS s = true ∧ isT t = true) ∧ isT now = true := by simpa [fitB] using hf
  rw [hm1] at HM
  rw [hm2] at H1
  rw [hm3] at H2
  have HW := Lib.hid (fun W => window_any s W)
  have HV := Lib.hid (fun g W h => windowed_any s now f1 f2 g W h hr1 hr2)
  clear hn hf1 hf2 hr1 hr2 hm1 hm2 hm3
  by_cases x1 : t < f1
  · obtain ⟨e1, e2⟩ := take_stale s t now hf (by rw [hst]; exact .inl x1)
    rw [e1, e2]
    clear hst hf e1 e2
    unfold stE stV
    go_enter Try.func9, Try.ntmps9
    go_upto_region 1 with fail
    rw [HWA.out]
    clear HWA
    go_wp2_with (with_reducible refine wpList_load_row (o := ⟨some 10, _, _, _, _, _⟩) rfl 23 _ rfl (w.heap.size) rfl 23 (stA s) (0, 0) _ (HP.out).raw11 Try.underlying23 rfl (by kernel_rfl) ?_)
    refine (HM.out _).mono ?_
    rintro e w1 ⟨rfl, hb1⟩
    obtain ⟨hp, hz⟩ := HC.out w1 hb1
    have HP1 := Lib.hid hp; have HZ1 := Lib.hid hz
    have HB1 := Lib.hid (HBWA.out.trans (hb1.mono HBWA.out.size))
    clear hp hz hb1 HP HC HM HBWA
    go_wp2_with fail
    refine (H1.out _).mono ?_
    rintro e w' ⟨rfl, rfl⟩
    go_wp2_with fail
    refine (H2.out _).mono ?_
    rintro e w' ⟨rfl, rfl⟩
    go_wp2_with (with_reducible refine wpList_load_row (o := ⟨some 25, _, _, _, _, _⟩) rfl 23 _ rfl (w.heap.size) rfl 23 (stA s) (0, 0) _ (HP1.out).raw11 Try.underlying23 rfl (by kernel_rfl) ?_)
    refine (HW.out _).mono ?_
    rintro e w2 ⟨rfl, hw2⟩
    have h2 : Has w2 w1.heap.size 23 (stA s) := by rw [← hw2]; exact Has.made _ _ _
    have hp2 : Has w2 (w.heap.size) 23 (stA s) := by rw [← hw2]; exact HP1.out.beside _
    have hz2 : Has w2 (w.heap.size + 1) 23 #[.int .i64 0, .int .i64 0, .int .i64 0, .bool false] := by rw [← hw2]; exact HZ1.out.beside _
    have hb2 : Below w.heap.size w w2 := by rw [← hw2]; exact below_al11 HB1.out _
    have HV2 := Lib.hid (HV.out _ w2 h2)
    have HP2 := Lib.hid hp2; have HZ2 := Lib.hid hz2; have HB2 := Lib.hid hb2
    clear hw2 h2 hp2 hz2 hb2 HV HW
    unfold pairI at HV2
    go_wp2_with fail
    refine HV2.out.mono ?_
    rintro e w3 ⟨rfl, hb3⟩
    have hp3 := HP2.out.under hb3 HP2.out.lt
    have hz3 := HZ2.out.under hb3 HZ2.out.lt
    have hb4 : Below w.heap.size w w3 := HB2.out.trans (hb3.mono HB2.out.size)
    have c3 : w3.cell? ⟨w.heap.size, 3, none⟩ = some (.bool s.free) := (hp3).cell 3
    have HZ3 := Lib.hid hz3
    have HR := Lib.hid (has_row11 hz3 #[.int .i64 0, .int .i64 0, .int .i64 0, .bool false])
    have HBF := Lib.hid (below_row (g := w.heap.size + 1) hb4 (by omega) #[.int .i64 0, .int .i64 0, .int .i64 0, .bool false])
    clear HV2 HP2 HZ2 HB2 hp3 hz3 hb3 hb4 HP1 HZ1 HB1
    go_wp2_with (with_reducible refine wpList_store_rowTo (o := ⟨none, _, _, _, _, _⟩) rfl 23 _ _ rfl rfl (w.heap.size + 1) #[.int .i64 0, .int .i64 0, .int .i64 0, .bool false] rfl rfl 23 _ (HZ3.out).raw11 (by kernel_rfl) (by kernel_rfl) (by kernel_rfl) ?_)
    refine bodyPost_ret (results_row_tmp11 rfl _ _ (w.heap.size + 1) 23 _ _ rfl HR.out Try.underlying23 rfl (by kernel_rfl)) rfl ?_
    exact ⟨rfl, HBF.out⟩
  by_cases x2 : f2 < t
  · obtain ⟨e1, e2⟩ := take_stale s t now hf (by rw [hst]; exact .inr (.inl x2))
    rw [e1, e2]
    clear hst hf e1 e2
    unfold stE stV
    go_enter Try.func9, Try.ntmps9
    go_upto_region 1 with fail
    rw [HWA.out]
    clear HWA
    go_wp2_with (with_reducible refine wpList_load_row (o := ⟨some 10, _, _, _, _, _⟩) rfl 23 _ rfl (w.heap.size) rfl 23 (stA s) (0, 0) _ (HP.out).raw11 Try.underlying23 rfl (by kernel_rfl) ?_)
    refine (HM.out _).mono ?_
    rintro e w1 ⟨rfl, hb1⟩
    obtain ⟨hp, hz⟩ := HC.out w1 hb1
    have HP1 := Lib.hid hp; have HZ1 := Lib.hid hz
    have HB1 := Lib.hid (HBWA.out.trans (hb1.mono HBWA.out.size))
    clear hp hz hb1 HP HC HM HBWA
    go_wp2_with fail
    refine (H1.out _).mono ?_
    rintro e w' ⟨rfl, rfl⟩
    go_wp2_with fail
    refine (H2.out _).mono ?_
    rintro e w' ⟨rfl, rfl⟩
    go_wp2_with (with_reducible refine wpList_load_row (o := ⟨some 25, _, _, _, _, _⟩) rfl 23 _ rfl (w.heap.size) rfl 23 (stA s) (0, 0) _ (HP1.out).raw11 Try.underlying23 rfl (by kernel_rfl) ?_)
    refine (HW.out _).mono ?_
    rintro e w2 ⟨rfl, hw2⟩
    have h2 : Has w2 w1.heap.size 23 (stA s) := by rw [← hw2]; exact Has.made _ _ _
    have hp2 : Has w2 (w.heap.size) 23 (stA s) := by rw [← hw2]; exact HP1.out.beside _
    have hz2 : Has w2 (w.heap.size + 1) 23 #[.int .i64 0, .int .i64 0, .int .i64 0, .bool false] := by rw [← hw2]; exact HZ1.out.beside _
    have hb2 : Below w.heap.size w w2 := by rw [← hw2]; exact below_al11 HB1.out _
    have HV2 := Lib.hid (HV.out _ w2 h2)
    have HP2 := Lib.hid hp2; have HZ2 := Lib.hid hz2; have HB2 := Lib.hid hb2
    clear hw2 h2 hp2 hz2 hb2 HV HW
    unfold pairI at HV2
    go_wp2_with fail
    refine HV2.out.mono ?_
    rintro e w3 ⟨rfl, hb3⟩
    have hp3 := HP2.out.under hb3 HP2.out.lt
    have hz3 := HZ2.out.under hb3 HZ2.out.lt
    have hb4 : Below w.heap.size w w3 := HB2.out.trans (hb3.mono HB2.out.size)
    have c3 : w3.cell? ⟨w.heap.size, 3, none⟩ = some (.bool s.free) := (hp3).cell 3
    have HZ3 := Lib.hid hz3
    have HR := Lib.hid (has_row11 hz3 #[.int .i64 0, .int .i64 0, .int .i64 0, .bool false])
    have HBF := Lib.hid (below_row (g := w.heap.size + 1) hb4 (by omega) #[.int .i64 0, .int .i64 0, .int .i64 0, .bool false])
    clear HV2 HP2 HZ2 HB2 hp3 hz3 hb3 hb4 HP1 HZ1 HB1
    go_wp2_with (with_reducible refine wpList_store_rowTo (o := ⟨none, _, _, _, _, _⟩) rfl 23 _ _ rfl rfl (w.heap.size + 1) #[.int .i64 0, .int .i64 0, .int .i64 0, .bool false] rfl rfl 23 _ (HZ3.out).raw11 (by kernel_rfl) (by kernel_rfl) (by kernel_rfl) ?_)
    refine bodyPost_ret (results_row_tmp11 rfl _ _ (w.heap.size + 1) 23 _ _ rfl HR.out Try.underlying23 rfl (by kernel_rfl)) rfl ?_
    exact ⟨rfl, HBF.out⟩
  obtain ⟨fr, hfr⟩ : ∃ fr, s.free = fr := ⟨_, rfl⟩
  cases fr with
  | true =>
    obtain ⟨e1, e2⟩ := take_ok s t now hf (by rw [hst]; simp [x1, x2, hfr])
    rw [e1, e2]
    clear hst hf e1 e2
    unfold stE stV
    go_enter Try.func9, Try.ntmps9
    go_upto_region 1 with fail
    rw [HWA.out]
    clear HWA
    go_wp2_with (with_reducible refine wpList_load_row (o := ⟨some 10, _, _, _, _, _⟩) rfl 23 _ rfl (w.heap.size) rfl 23 (stA s) (0, 0) _ (HP.out).raw11 Try.underlying23 rfl (by kernel_rfl) ?_)
    refine (HM.out _).mono ?_
    rintro e w1 ⟨rfl, hb1⟩
    obtain ⟨hp, hz⟩ := HC.out w1 hb1
    have HP1 := Lib.hid hp; have HZ1 := Lib.hid hz
    have HB1 := Lib.hid (HBWA.out.trans (hb1.mono HBWA.out.size))
    clear hp hz hb1 HP HC HM HBWA
    go_wp2_with fail
    refine (H1.out _).mono ?_
    rintro e w' ⟨rfl, rfl⟩
    go_wp2_with fail
    refine (H2.out _).mono ?_
    rintro e w' ⟨rfl, rfl⟩
    go_wp2_with (with_reducible refine wpList_load_row (o := ⟨some 25, _, _, _, _, _⟩) rfl 23 _ rfl (w.heap.size) rfl 23 (stA s) (0, 0) _ (HP1.out).raw11 Try.underlying23 rfl (by kernel_rfl) ?_)
    refine (HW.out _).mono ?_
    rintro e w2 ⟨rfl, hw2⟩
    have h2 : Has w2 w1.heap.size 23 (stA s) := by rw [← hw2]; exact Has.made _ _ _
    have hp2 : Has w2 (w.heap.size) 23 (stA s) := by rw [← hw2]; exact HP1.out.beside _
    have hz2 : Has w2 (w.heap.size + 1) 23 #[.int .i64 0, .int .i64 0, .int .i64 0, .bool false] := by rw [← hw2]; exact HZ1.out.beside _
    have hb2 : Below w.heap.size w w2 := by rw [← hw2]; exact below_al11 HB1.out _
    have HV2 := Lib.hid (HV.out _ w2 h2)
    have HP2 := Lib.hid hp2; have HZ2 := Lib.hid hz2; have HB2 := Lib.hid hb2
    clear hw2 h2 hp2 hz2 hb2 HV HW
    unfold pairI at HV2
    go_wp2_with fail
    refine HV2.out.mono ?_
    rintro e w3 ⟨rfl, hb3⟩
    have hp3 := HP2.out.under hb3 HP2.out.lt
    have hz3 := HZ2.out.under hb3 HZ2.out.lt
    have hb4 : Below w.heap.size w w3 := HB2.out.trans (hb3.mono HB2.out.size)
    have c0 : w3.cell? ⟨w.heap.size, 0, none⟩ = some (.int .i64 s.last) := (hp3).cell 0
    have c3 : w3.cell? ⟨w.heap.size, 3, none⟩ = some (.bool s.free) := (hp3).cell 3
    rw [hfr] at c3
    clear hfr
    have z0 := hp3.thaw 0; have z3 := hp3.thaw 3
    obtain ⟨w4, hw4⟩ : ∃ w4, (w3.setCell ⟨w.heap.size, 0, none⟩ (.int .i64 t)).setCell ⟨w.heap.size, 3, none⟩ (.bool false) = w4 := ⟨_, rfl⟩
    have hp4 : Has w4 (w.heap.size) 23 #[.int .i64 t, .int .i64 s.ahead, .int .i64 s.behind, .bool false] := by rw [← hw4]; exact ((hp3.stored 0 _).stored 3 _).is11 (by kernel_rfl)
    have hz4 : Has w4 (w.heap.size + 1) 23 #[.int .i64 0, .int .i64 0, .int .i64 0, .bool false] := by rw [← hw4]; exact (hz3.apart (p := ⟨w.heap.size, 0, none⟩) (by show _ ≠ w.heap.size; omega) _).apart (p := ⟨w.heap.size, 3, none⟩) (by show _ ≠ w.heap.size; omega) _
    have hb5 : Below w.heap.size w w4 := by rw [← hw4]; exact (hb4.setCell (p := ⟨w.heap.size, 0, none⟩) (Nat.le_refl _) _).setCell (p := ⟨w.heap.size, 3, none⟩) (Nat.le_refl _) _
    have HW4 := Lib.hid hw4; have HP4 := Lib.hid hp4; have HZ4 := Lib.hid hz4
    have HR := Lib.hid (has_row11 hz4 #[.int .i64 t, .int .i64 s.ahead, .int .i64 s.behind, .bool false])
    have HBF := Lib.hid (below_row (g := w.heap.size + 1) hb5 (by omega) #[.int .i64 t, .int .i64 s.ahead, .int .i64 s.behind, .bool false])
    clear HV2 HP2 HZ2 HB2 hp3 hz3 hb3 hb4 HP1 HZ1 HB1 hw4 hp4 hz4 hb5
    go_upto_region 7 with fail
    rw [HW4.out]
    clear HW4 c0 c3 z0 z3
    go_wp2_with (first | (with_reducible refine wpList_load_row (o := ⟨some 54, _, _, _, _, _⟩) rfl 23 _ rfl (w.heap.size) rfl 23 #[.int .i64 t, .int .i64 s.ahead, .int .i64 s.behind, .bool false] (0, 0) _ (HP4.out).raw11 Try.underlying23 rfl (by kernel_rfl) ?_) | (with_reducible refine wpList_store_rowTo (o := ⟨none, _, _, _, _, _⟩) rfl 23 _ _ rfl rfl (w.heap.size + 1) #[.int .i64 t, .int .i64 s.ahead, .int .i64 s.behind, .bool false] rfl rfl 23 _ (HZ4.out).raw11 (by kernel_rfl) (by kernel_rfl) (by kernel_rfl) ?_))
    refine bodyPost_ret (results_row_tmp11 rfl _ _ (w.heap.size + 1) 23 _ _ rfl HR.out Try.underlying23 rfl (by kernel_rfl)) rfl ?_
    exact ⟨rfl, HBF.out⟩
  | false =>
    by_cases x3 : t ≤ s.last
    · obtain ⟨e1, e2⟩ := take_stale s t now hf (by rw [hst]; exact .inr (.inr ⟨hfr, x3⟩))
      rw [e1, e2]
      clear hst hf e1 e2
      unfold stE stV
      go_enter Try.func9, Try.ntmps9
      go_upto_region 1 with fail
      rw [HWA.out]
      clear HWA
      go_wp2_with (with_reducible refine wpList_load_row (o := ⟨some 10, _, _, _, _, _⟩) rfl 23 _ rfl (w.heap.size) rfl 23 (stA s) (0, 0) _ (HP.out).raw11 Try.underlying23 rfl (by kernel_rfl) ?_)
      refine (HM.out _).mono ?_
      rintro e w1 ⟨rfl, hb1⟩
      obtain ⟨hp, hz⟩ := HC.out w1 hb1
      have HP1 := Lib.hid hp; have HZ1 := Lib.hid hz
      have HB1 := Lib.hid (HBWA.out.trans (hb1.mono HBWA.out.size))
      clear hp hz hb1 HP HC HM HBWA
      go_wp2_with fail
      refine (H1.out _).mono ?_
      rintro e w' ⟨rfl, rfl⟩
      go_wp2_with fail
      refine (H2.out _).mono ?_
      rintro e w' ⟨rfl, rfl⟩
      go_wp2_with (with_reducible refine wpList_load_row (o := ⟨some 25, _, _, _, _, _⟩) rfl 23 _ rfl (w.heap.size) rfl 23 (stA s) (0, 0) _ (HP1.out).raw11 Try.underlying23 rfl (by kernel_rfl) ?_)
      refine (HW.out _).mono ?_
      rintro e w2 ⟨rfl, hw2⟩
      have h2 : Has w2 w1.heap.size 23 (stA s) := by rw [← hw2]; exact Has.made _ _ _
      have hp2 : Has w2 (w.heap.size) 23 (stA s) := by rw [← hw2]; exact HP1.out.beside _
      have hz2 : Has w2 (w.heap.size + 1) 23 #[.int .i64 0, .int .i64 0, .int .i64 0, .bool false] := by rw [← hw2]; exact HZ1.out.beside _
      have hb2 : Below w.heap.size w w2 := by rw [← hw2]; exact below_al11 HB1.out _
      have HV2 := Lib.hid (HV.out _ w2 h2)
      have HP2 := Lib.hid hp2; have HZ2 := Lib.hid hz2; have HB2 := Lib.hid hb2
      clear hw2 h2 hp2 hz2 hb2 HV HW
      unfold pairI at HV2
      go_wp2_with fail
      refine HV2.out.mono ?_
      rintro e w3 ⟨rfl, hb3⟩
      have hp3 := HP2.out.under hb3 HP2.out.lt
      have hz3 := HZ2.out.under hb3 HZ2.out.lt
      have hb4 : Below w.heap.size w w3 := HB2.out.trans (hb3.mono HB2.out.size)
      have c0 : w3.cell? ⟨w.heap.size, 0, none⟩ = some (.int .i64 s.last) := (hp3).cell 0
      have c3 : w3.cell? ⟨w.heap.size, 3, none⟩ = some (.bool s.free) := (hp3).cell 3
      rw [hfr] at c3
      clear hfr
      have HZ3 := Lib.hid hz3
      have HR := Lib.hid (has_row11 hz3 #[.int .i64 0, .int .i64 0, .int .i64 0, .bool false])
      have HBF := Lib.hid (below_row (g := w.heap.size + 1) hb4 (by omega) #[.int .i64 0, .int .i64 0, .int .i64 0, .bool false])
      clear HV2 HP2 HZ2 HB2 hp3 hz3 hb3 hb4 HP1 HZ1 HB1
      go_wp2_with (with_reducible refine wpList_store_rowTo (o := ⟨none, _, _, _, _, _⟩) rfl 23 _ _ rfl rfl (w.heap.size + 1) #[.int .i64 0, .int .i64 0, .int .i64 0, .bool false] rfl rfl 23 _ (HZ3.out).raw11 (by kernel_rfl) (by kernel_rfl) (by kernel_rfl) ?_)
      refine bodyPost_ret (results_row_tmp11 rfl _ _ (w.heap.size + 1) 23 _ _ rfl HR.out Try.underlying23 rfl (by kernel_rfl)) rfl ?_
      exact ⟨rfl, HBF.out⟩
    obtain ⟨e1, e2⟩ := take_ok s t now hf (by rw [hst]; simp [x1, x2, x3])
    rw [e1, e2]
    clear hst hf e1 e2
    unfold stE stV
    go_enter Try.func9, Try.ntmps9
    go_upto_region 1 with fail
    rw [HWA.out]
    clear HWA
    go_wp2_with (with_reducible refine wpList_load_row (o := ⟨some 10, _, _, _, _, _⟩) rfl 23 _ rfl (w.heap.size) rfl 23 (stA s) (0, 0) _ (HP.out).raw11 Try.underlying23 rfl (by kernel_rfl) ?_)
    refine (HM.out _).mono ?_
    rintro e w1 ⟨rfl, hb1⟩
    obtain ⟨hp, hz⟩ := HC.out w1 hb1
    have HP1 := Lib.hid hp; have HZ1 := Lib.hid hz
    have HB1 := Lib.hid (HBWA.out.trans (hb1.mono HBWA.out.size))
    clear hp hz hb1 HP HC HM HBWA
    go_wp2_with fail
    refine (H1.out _).mono ?_
    rintro e w' ⟨rfl, rfl⟩
    go_wp2_with fail
    refine (H2.out _).mono ?_
    rintro e w' ⟨rfl, rfl⟩
    go_wp2_with (with_reducible refine wpList_load_row (o := ⟨some 25, _, _, _, _, _⟩) rfl 23 _ rfl (w.heap.size) rfl 23 (stA s) (0, 0) _ (HP1.out).raw11 Try.underlying23 rfl (by kernel_rfl) ?_)
    refine (HW.out _).mono ?_
    rintro e w2 ⟨rfl, hw2⟩
    have h2 : Has w2 w1.heap.size 23 (stA s) := by rw [← hw2]; exact Has.made _ _ _
    have hp2 : Has w2 (w.heap.size) 23 (stA s) := by rw [← hw2]; exact HP1.out.beside _
    have hz2 : Has w2 (w.heap.size + 1) 23 #[.int .i64 0, .int .i64 0, .int .i64 0, .bool false] := by rw [← hw2]; exact HZ1.out.beside _
    have hb2 : Below w.heap.size w w2 := by rw [← hw2]; exact below_al11 HB1.out _
    have HV2 := Lib.hid (HV.out _ w2 h2)
    have HP2 := Lib.hid hp2; have HZ2 := Lib.hid hz2; have HB2 := Lib.hid hb2
    clear hw2 h2 hp2 hz2 hb2 HV HW
    unfold pairI at HV2
    go_wp2_with fail
    refine HV2.out.mono ?_
    rintro e w3 ⟨rfl, hb3⟩
    have hp3 := HP2.out.under hb3 HP2.out.lt
    have hz3 := HZ2.out.under hb3 HZ2.out.lt
    have hb4 : Below w.heap.size w w3 := HB2.out.trans (hb3.mono HB2.out.size)
    have c0 : w3.cell? ⟨w.heap.size, 0, none⟩ = some (.int .i64 s.last) := (hp3).cell 0
    have c3 : w3.cell? ⟨w.heap.size, 3, none⟩ = some (.bool s.free) := (hp3).cell 3
    rw [hfr] at c3
    clear hfr
    have z0 := hp3.thaw 0; have z3 := hp3.thaw 3
    obtain ⟨w4, hw4⟩ : ∃ w4, (w3.setCell ⟨w.heap.size, 0, none⟩ (.int .i64 t)).setCell ⟨w.heap.size, 3, none⟩ (.bool false) = w4 := ⟨_, rfl⟩
    have hp4 : Has w4 (w.heap.size) 23 #[.int .i64 t, .int .i64 s.ahead, .int .i64 s.behind, .bool false] := by rw [← hw4]; exact ((hp3.stored 0 _).stored 3 _).is11 (by kernel_rfl)
    have hz4 : Has w4 (w.heap.size + 1) 23 #[.int .i64 0, .int .i64 0, .int .i64 0, .bool false] := by rw [← hw4]; exact (hz3.apart (p := ⟨w.heap.size, 0, none⟩) (by show _ ≠ w.heap.size; omega) _).apart (p := ⟨w.heap.size, 3, none⟩) (by show _ ≠ w.heap.size; omega) _
    have hb5 : Below w.heap.size w w4 := by rw [← hw4]; exact (hb4.setCell (p := ⟨w.heap.size, 0, none⟩) (Nat.le_refl _) _).setCell (p := ⟨w.heap.size, 3, none⟩) (Nat.le_refl _) _
    have HW4 := Lib.hid hw4; have HP4 := Lib.hid hp4; have HZ4 := Lib.hid hz4
    have HR := Lib.hid (has_row11 hz4 #[.int .i64 t, .int .i64 s.ahead, .int .i64 s.behind, .bool false])
    have HBF := Lib.hid (below_row (g := w.heap.size + 1) hb5 (by omega) #[.int .i64 t, .int .i64 s.ahead, .int .i64 s.behind, .bool false])
    clear HV2 HP2 HZ2 HB2 hp3 hz3 hb3 hb4 HP1 HZ1 HB1 hw4 hp4 hz4 hb5
    go_upto_region 7 with fail
    rw [HW4.out]
    clear HW4 c0 c3 z0 z3
    go_wp2_with (first | (with_reducible refine wpList_load_row (o := ⟨some 54, _, _, _, _, _⟩) rfl 23 _ rfl (w.heap.size) rfl 23 #[.int .i64 t, .int .i64 s.ahead, .int .i64 s.behind, .bool false] (0, 0) _ (HP4.out).raw11 Try.underlying23 rfl (by kernel_rfl) ?_) | (with_reducible refine wpList_store_rowTo (o := ⟨none, _, _, _, _, _⟩) rfl 23 _ _ rfl rfl (w.heap.size + 1) #[.int .i64 t, .int .i64 s.ahead, .int .i64 s.behind, .bool false] rfl rfl 23 _ (HZ4.out).raw11 (by kernel_rfl) (by kernel_rfl) (by kernel_rfl) ?_))
    refine bodyPost_ret (results_row_tmp11 rfl _ _ (w.heap.size + 1) 23 _ _ rfl HR.out Try.underlying23 rfl (by kernel_rfl)) rfl ?_
    exact ⟨rfl, HBF.out⟩

end Go.Proofs.Ytjfndnpjcicogaa
