/-
  stamp: the document's own Take.
-/
import Derived.Test.YtjfndnpjcicogaaSpC
namespace Go.Proofs.Ytjfndnpjcicogaa
open Go.RowKit
open Go.Great

set_option maxRecDepth 100000 in
set_option maxHeartbeats 2000000 in
theorem rtake_any (s : Stp) (t now : Int) (w : World) :
    Calls Try.prog 10 #[stV s, .int .i64 t, .int .i64 now] w fun e w' => e = .returned (stE (takeS s t now) (takeE s t now)) ∧ Below w.heap.size w w' := by
  obtain ⟨wa, hwa⟩ : ∃ wa, (w.alloc (.cells (stA s) 23)).alloc (.cells #[.int .i64 0, .int .i64 0, .int .i64 0, .bool false] 23) = wa := ⟨_, rfl⟩
  have hbwa : Below w.heap.size w wa := by rw [← hwa]; exact ((Below.refl _ _).alloc (Nat.le_refl _) _).alloc (by simp) _
  have h0 : Has wa (w.heap.size) 23 (stA s) := by rw [← hwa]; exact ((Has.made _ _ _).beside _)
  have h1 : Has wa (w.heap.size + 1) 23 #[.int .i64 0, .int .i64 0, .int .i64 0, .bool false] := by rw [← hwa]; exact (has_at11 (by simp))
  have HWA := Lib.hid hwa; have HBWA := Lib.hid hbwa
  have HM := Lib.hid (fun W => rmay_any s W)
  have HC := Lib.hid (fun W (hW : Below wa.heap.size wa W) => And.intro (h0.under hW h0.lt) (h1.under hW h1.lt))
  have H1 := Lib.hid (fun W => rtime_any t W)
  have H2 := Lib.hid (fun W => rtime_any now W)
  have HP := Lib.hid h0
  clear hwa hbwa h0 h1
  by_cases hf : fitB s t now = true
  rotate_left
  · rw [Bool.not_eq_true] at hf
    obtain ⟨e1, e2⟩ := take_bad s t now hf
    rw [e1, e2]
    unfold fitB at hf
    generalize mayS s = m1 at *
    generalize isT t = m2 at *
    generalize isT now = m3 at *
    clear e1 e2
    unfold stE stV
    cases m1 with
    | false =>
      go_enter Try.func10, Try.ntmps10
      go_upto_region 1 with fail
      rw [HWA.out]
      clear HWA
      go_wp2_with (with_reducible refine wpList_load_row (o := ⟨some 11, _, _, _, _, _⟩) rfl 23 _ rfl (w.heap.size) rfl 23 (stA s) (0, 0) _ (HP.out).raw11 Try.underlying23 rfl (by kernel_rfl) ?_)
      refine (HM.out _).mono ?_
      rintro e w1 ⟨rfl, hb1⟩
      obtain ⟨hp, hz⟩ := HC.out w1 hb1
      have HP1 := Lib.hid hp; have HZ1 := Lib.hid hz
      have HB1 := Lib.hid (HBWA.out.trans (hb1.mono HBWA.out.size))
      clear hp hz hb1 HP HC HM HBWA
      go_wp2_with fail
      refine (H1.out _).mono ?_
      rintro e w' ⟨rfl, rfl⟩
      go_wp2_with fail
      refine (H2.out _).mono ?_
      rintro e w' ⟨rfl, rfl⟩
      clear HP1
      have HR := Lib.hid (has_row11 HZ1.out #[.int .i64 0, .int .i64 0, .int .i64 0, .bool false])
      have HBF := Lib.hid (below_row (g := w.heap.size + 1) HB1.out (by omega) #[.int .i64 0, .int .i64 0, .int .i64 0, .bool false])
      go_wp2_with (with_reducible refine wpList_store_rowTo (o := ⟨none, _, _, _, _, _⟩) rfl 23 _ _ rfl rfl (w.heap.size + 1) #[.int .i64 0, .int .i64 0, .int .i64 0, .bool false] rfl rfl 23 _ (HZ1.out).raw11 (by kernel_rfl) (by kernel_rfl) (by kernel_rfl) ?_)
      refine bodyPost_ret (results_row_tmp11 rfl _ _ (w.heap.size + 1) 23 _ _ rfl HR.out Try.underlying23 rfl (by kernel_rfl)) rfl ?_
      exact ⟨rfl, HBF.out⟩
    | true =>
      cases m2 with
      | false =>
        go_enter Try.func10, Try.ntmps10
        go_upto_region 1 with fail
        rw [HWA.out]
        clear HWA
        go_wp2_with (with_reducible refine wpList_load_row (o := ⟨some 11, _, _, _, _, _⟩) rfl 23 _ rfl (w.heap.size) rfl 23 (stA s) (0, 0) _ (HP.out).raw11 Try.underlying23 rfl (by kernel_rfl) ?_)
        refine (HM.out _).mono ?_
        rintro e w1 ⟨rfl, hb1⟩
        obtain ⟨hp, hz⟩ := HC.out w1 hb1
        have HP1 := Lib.hid hp; have HZ1 := Lib.hid hz
        have HB1 := Lib.hid (HBWA.out.trans (hb1.mono HBWA.out.size))
        clear hp hz hb1 HP HC HM HBWA
        go_wp2_with fail
        refine (H1.out _).mono ?_
        rintro e w' ⟨rfl, rfl⟩
        go_wp2_with fail
        refine (H2.out _).mono ?_
        rintro e w' ⟨rfl, rfl⟩
        clear HP1
        have HR := Lib.hid (has_row11 HZ1.out #[.int .i64 0, .int .i64 0, .int .i64 0, .bool false])
        have HBF := Lib.hid (below_row (g := w.heap.size + 1) HB1.out (by omega) #[.int .i64 0, .int .i64 0, .int .i64 0, .bool false])
        go_wp2_with (with_reducible refine wpList_store_rowTo (o := ⟨none, _, _, _, _, _⟩) rfl 23 _ _ rfl rfl (w.heap.size + 1) #[.int .i64 0, .int .i64 0, .int .i64 0, .bool false] rfl rfl 23 _ (HZ1.out).raw11 (by kernel_rfl) (by kernel_rfl) (by kernel_rfl) ?_)
        refine bodyPost_ret (results_row_tmp11 rfl _ _ (w.heap.size + 1) 23 _ _ rfl HR.out Try.underlying23 rfl (by kernel_rfl)) rfl ?_
        exact ⟨rfl, HBF.out⟩
      | true =>
        cases m3 with
        | false =>
          go_enter Try.func10, Try.ntmps10
          go_upto_region 1 with fail
          rw [HWA.out]
          clear HWA
          go_wp2_with (with_reducible refine wpList_load_row (o := ⟨some 11, _, _, _, _, _⟩) rfl 23 _ rfl (w.heap.size) rfl 23 (stA s) (0, 0) _ (HP.out).raw11 Try.underlying23 rfl (by kernel_rfl) ?_)
          refine (HM.out _).mono ?_
          rintro e w1 ⟨rfl, hb1⟩
          obtain ⟨hp, hz⟩ := HC.out w1 hb1
          have HP1 := Lib.hid hp; have HZ1 := Lib.hid hz
          have HB1 := Lib.hid (HBWA.out.trans (hb1.mono HBWA.out.size))
          clear hp hz hb1 HP HC HM HBWA
          go_wp2_with fail
          refine (H1.out _).mono ?_
          rintro e w' ⟨rfl, rfl⟩
          go_wp2_with fail
          refine (H2.out _).mono ?_
          rintro e w' ⟨rfl, rfl⟩
          clear HP1
          have HR := Lib.hid (has_row11 HZ1.out #[.int .i64 0, .int .i64 0, .int .i64 0, .bool false])
          have HBF := Lib.hid (below_row (g := w.heap.size + 1) HB1.out (by omega) #[.int .i64 0, .int .i64 0, .int .i64 0, .bool false])
          go_wp2_with (with_reducible refine wpList_store_rowTo (o := ⟨none, _, _, _, _, _⟩) rfl 23 _ _ rfl rfl (w.heap.size + 1) #[.int .i64 0, .int .i64 0, .int .i64 0, .bool false] rfl rfl 23 _ (HZ1.out).raw11 (by kernel_rfl) (by kernel_rfl) (by kernel_rfl) ?_)
          refine bodyPost_ret (results_row_tmp11 rfl _ _ (w.heap.size + 1) 23 _ _ rfl HR.out Try.underlying23 rfl (by kernel_rfl)) rfl ?_
          exact ⟨rfl, HBF.out⟩
        | true => exact absurd hf (by decide)
  have hn := fit_nums hf
  have hr1 : wrap64 (t - now) = t - now := IntWalk.wrap64_in _ (by omega)
  have hr2 : wrap64 (now - t) = now - t := IntWalk.wrap64_in _ (by omega)
  have hst : stale s t now ↔ (s.ahead < t - now ∨ s.behind < now - t ∨ (s.free = false ∧ t ≤ s.last)) := by
    unfold stale
    constructor <;> rintro (h | h | h) <;> first | exact .inl (by omega) | exact .inr (.inl (by omega)) | exact .inr (.inr h)
  obtain ⟨⟨hm1, hm2⟩, hm3⟩ : (mayS s = true ∧ isT t = true) ∧ isT now = true := by simpa [fitB] using hf
  rw [hm1] at HM
  rw [hm2] at H1
  rw [hm3] at H2
  clear hn hm1 hm2 hm3
  by_cases x1 : s.ahead < t - now
  · obtain ⟨e1, e2⟩ := take_stale s t now hf (by rw [hst]; exact .inl x1)
    rw [e1, e2]
    clear hst hf e1 e2
    unfold stE stV
    go_enter Try.func10, Try.ntmps10
    go_upto_region 1 with fail
    rw [HWA.out]
    clear HWA
    go_wp2_with (with_reducible refine wpList_load_row (o := ⟨some 11, _, _, _, _, _⟩) rfl 23 _ rfl (w.heap.size) rfl 23 (stA s) (0, 0) _ (HP.out).raw11 Try.underlying23 rfl (by kernel_rfl) ?_)
    refine (HM.out _).mono ?_
    rintro e w1 ⟨rfl, hb1⟩
    obtain ⟨hp, hz⟩ := HC.out w1 hb1
    have HP1 := Lib.hid hp; have HZ1 := Lib.hid hz
    have HB1 := Lib.hid (HBWA.out.trans (hb1.mono HBWA.out.size))
    clear hp hz hb1 HP HC HM HBWA
    go_wp2_with fail
    refine (H1.out _).mono ?_
    rintro e w' ⟨rfl, rfl⟩
    go_wp2_with fail
    refine (H2.out _).mono ?_
    rintro e w' ⟨rfl, rfl⟩
    have c1 : w1.cell? ⟨w.heap.size, 1, none⟩ = some (.int .i64 s.ahead) := (HP1.out).cell 1
    have c2 : w1.cell? ⟨w.heap.size, 2, none⟩ = some (.int .i64 s.behind) := (HP1.out).cell 2
    have c3 : w1.cell? ⟨w.heap.size, 3, none⟩ = some (.bool s.free) := (HP1.out).cell 3
    clear HP1
    have HR := Lib.hid (has_row11 HZ1.out #[.int .i64 0, .int .i64 0, .int .i64 0, .bool false])
    have HBF := Lib.hid (below_row (g := w.heap.size + 1) HB1.out (by omega) #[.int .i64 0, .int .i64 0, .int .i64 0, .bool false])
    go_wp2_with (with_reducible refine wpList_store_rowTo (o := ⟨none, _, _, _, _, _⟩) rfl 23 _ _ rfl rfl (w.heap.size + 1) #[.int .i64 0, .int .i64 0, .int .i64 0, .bool false] rfl rfl 23 _ (HZ1.out).raw11 (by kernel_rfl) (by kernel_rfl) (by kernel_rfl) ?_)
    refine bodyPost_ret (results_row_tmp11 rfl _ _ (w.heap.size + 1) 23 _ _ rfl HR.out Try.underlying23 rfl (by kernel_rfl)) rfl ?_
    exact ⟨rfl, HBF.out⟩
  by_cases x2 : s.behind < now - t
  · obtain ⟨e1, e2⟩ := take_stale s t now hf (by rw [hst]; exact .inr (.inl x2))
    rw [e1, e2]
    clear hst hf e1 e2
    unfold stE stV
    go_enter Try.func10, Try.ntmps10
    go_upto_region 1 with fail
    rw [HWA.out]
    clear HWA
    go_wp2_with (with_reducible refine wpList_load_row (o := ⟨some 11, _, _, _, _, _⟩) rfl 23 _ rfl (w.heap.size) rfl 23 (stA s) (0, 0) _ (HP.out).raw11 Try.underlying23 rfl (by kernel_rfl) ?_)
    refine (HM.out _).mono ?_
    rintro e w1 ⟨rfl, hb1⟩
    obtain ⟨hp, hz⟩ := HC.out w1 hb1
    have HP1 := Lib.hid hp; have HZ1 := Lib.hid hz
    have HB1 := Lib.hid (HBWA.out.trans (hb1.mono HBWA.out.size))
    clear hp hz hb1 HP HC HM HBWA
    go_wp2_with fail
    refine (H1.out _).mono ?_
    rintro e w' ⟨rfl, rfl⟩
    go_wp2_with fail
    refine (H2.out _).mono ?_
    rintro e w' ⟨rfl, rfl⟩
    have c1 : w1.cell? ⟨w.heap.size, 1, none⟩ = some (.int .i64 s.ahead) := (HP1.out).cell 1
    have c2 : w1.cell? ⟨w.heap.size, 2, none⟩ = some (.int .i64 s.behind) := (HP1.out).cell 2
    have c3 : w1.cell? ⟨w.heap.size, 3, none⟩ = some (.bool s.free) := (HP1.out).cell 3
    clear HP1
    have HR := Lib.hid (has_row11 HZ1.out #[.int .i64 0, .int .i64 0, .int .i64 0, .bool false])
    have HBF := Lib.hid (below_row (g := w.heap.size + 1) HB1.out (by omega) #[.int .i64 0, .int .i64 0, .int .i64 0, .bool false])
    go_wp2_with (with_reducible refine wpList_store_rowTo (o := ⟨none, _, _, _, _, _⟩) rfl 23 _ _ rfl rfl (w.heap.size + 1) #[.int .i64 0, .int .i64 0, .int .i64 0, .bool false] rfl rfl 23 _ (HZ1.out).raw11 (by kernel_rfl) (by kernel_rfl) (by kernel_rfl) ?_)
    refine bodyPost_ret (results_row_tmp11 rfl _ _ (w.heap.size + 1) 23 _ _ rfl HR.out Try.underlying23 rfl (by kernel_rfl)) rfl ?_
    exact ⟨rfl, HBF.out⟩
  obtain ⟨fr, hfr⟩ : ∃ fr, s.free = fr := ⟨_, rfl⟩
  cases fr with
  | true =>
    obtain ⟨e1, e2⟩ := take_ok s t now hf (by rw [hst]; simp [x1, x2, hfr])
    rw [e1, e2]
    clear hst hf e1 e2
    unfold stE stV
    go_enter Try.func10, Try.ntmps10
    go_upto_region 1 with fail
    rw [HWA.out]
    clear HWA
    go_wp2_with (with_reducible refine wpList_load_row (o := ⟨some 11, _, _, _, _, _⟩) rfl 23 _ rfl (w.heap.size) rfl 23 (stA s) (0, 0) _ (HP.out).raw11 Try.underlying23 rfl (by kernel_rfl) ?_)
    refine (HM.out _).mono ?_
    rintro e w1 ⟨rfl, hb1⟩
    obtain ⟨hp, hz⟩ := HC.out w1 hb1
    have HP1 := Lib.hid hp; have HZ1 := Lib.hid hz
    have HB1 := Lib.hid (HBWA.out.trans (hb1.mono HBWA.out.size))
    clear hp hz hb1 HP HC HM HBWA
    go_wp2_with fail
    refine (H1.out _).mono ?_
    rintro e w' ⟨rfl, rfl⟩
    go_wp2_with fail
    refine (H2.out _).mono ?_
    rintro e w' ⟨rfl, rfl⟩
    have c0 : w1.cell? ⟨w.heap.size, 0, none⟩ = some (.int .i64 s.last) := (HP1.out).cell 0
    have c1 : w1.cell? ⟨w.heap.size, 1, none⟩ = some (.int .i64 s.ahead) := (HP1.out).cell 1
    have c2 : w1.cell? ⟨w.heap.size, 2, none⟩ = some (.int .i64 s.behind) := (HP1.out).cell 2
    have c3 : w1.cell? ⟨w.heap.size, 3, none⟩ = some (.bool s.free) := (HP1.out).cell 3
    rw [hfr] at c3
    clear hfr
    clear HP1
    have HR := Lib.hid (has_row11 HZ1.out #[.int .i64 t, .int .i64 s.ahead, .int .i64 s.behind, .bool false])
    have HBF := Lib.hid (below_row (g := w.heap.size + 1) HB1.out (by omega) #[.int .i64 t, .int .i64 s.ahead, .int .i64 s.behind, .bool false])
    go_wp2_with (with_reducible refine wpList_store_rowTo (o := ⟨none, _, _, _, _, _⟩) rfl 23 _ _ rfl rfl (w.heap.size + 1) #[.int .i64 t, .int .i64 s.ahead, .int .i64 s.behind, .bool false] rfl rfl 23 _ (HZ1.out).raw11 (by kernel_rfl) (by kernel_rfl) (by kernel_rfl) ?_)
    refine bodyPost_ret (results_row_tmp11 rfl _ _ (w.heap.size + 1) 23 _ _ rfl HR.out Try.underlying23 rfl (by kernel_rfl)) rfl ?_
    exact ⟨rfl, HBF.out⟩
  | false =>
    by_cases x3 : t ≤ s.last
    · obtain ⟨e1, e2⟩ := take_stale s t now hf (by rw [hst]; exact .inr (.inr ⟨hfr, x3⟩))
      rw [e1, e2]
      clear hst hf e1 e2
      unfold stE stV
      go_enter Try.func10, Try.ntmps10
      go_upto_region 1 with fail
      rw [HWA.out]
      clear HWA
      go_wp2_with (with_reducible refine wpList_load_row (o := ⟨some 11, _, _, _, _, _⟩) rfl 23 _ rfl (w.heap.size) rfl 23 (stA s) (0, 0) _ (HP.out).raw11 Try.underlying23 rfl (by kernel_rfl) ?_)
      refine (HM.out _).mono ?_
      rintro e w1 ⟨rfl, hb1⟩
      obtain ⟨hp, hz⟩ := HC.out w1 hb1
      have HP1 := Lib.hid hp; have HZ1 := Lib.hid hz
      have HB1 := Lib.hid (HBWA.out.trans (hb1.mono HBWA.out.size))
      clear hp hz hb1 HP HC HM HBWA
      go_wp2_with fail
      refine (H1.out _).mono ?_
      rintro e w' ⟨rfl, rfl⟩
      go_wp2_with fail
      refine (H2.out _).mono ?_
      rintro e w' ⟨rfl, rfl⟩
      have c0 : w1.cell? ⟨w.heap.size, 0, none⟩ = some (.int .i64 s.last) := (HP1.out).cell 0
      have c1 : w1.cell? ⟨w.heap.size, 1, none⟩ = some (.int .i64 s.ahead) := (HP1.out).cell 1
      have c2 : w1.cell? ⟨w.heap.size, 2, none⟩ = some (.int .i64 s.behind) := (HP1.out).cell 2
      have c3 : w1.cell? ⟨w.heap.size, 3, none⟩ = some (.bool s.free) := (HP1.out).cell 3
      rw [hfr] at c3
      clear hfr
      clear HP1
      have HR := Lib.hid (has_row11 HZ1.out #[.int .i64 0, .int .i64 0, .int .i64 0, .bool false])
      have HBF := Lib.hid (below_row (g := w.heap.size + 1) HB1.out (by omega) #[.int .i64 0, .int .i64 0, .int .i64 0, .bool false])
      go_wp2_with (with_reducible refine wpList_store_rowTo (o := ⟨none, _, _, _, _, _⟩) rfl 23 _ _ rfl rfl (w.heap.size + 1) #[.int .i64 0, .int .i64 0, .int .i64 0, .bool false] rfl rfl 23 _ (HZ1.out).raw11 (by kernel_rfl) (by kernel_rfl) (by kernel_rfl) ?_)
      refine bodyPost_ret (results_row_tmp11 rfl _ _ (w.heap.size + 1) 23 _ _ rfl HR.out Try.underlying23 rfl (by kernel_rfl)) rfl ?_
      exact ⟨rfl, HBF.out⟩
    obtain ⟨e1, e2⟩ := take_ok s t now hf (by rw [hst]; simp [x1, x2, x3])
    rw [e1, e2]
    clear hst hf e1 e2
    unfold stE stV
    go_enter Try.func10, Try.ntmps10
    go_upto_region 1 with fail
    rw [HWA.out]
    clear HWA
    go_wp2_with (with_reducible refine wpList_load_row (o := ⟨some 11, _, _, _, _, _⟩) rfl 23 _ rfl (w.heap.size) rfl 23 (stA s) (0, 0) _ (HP.out).raw11 Try.underlying23 rfl (by kernel_rfl) ?_)
    refine (HM.out _).mono ?_
    rintro e w1 ⟨rfl, hb1⟩
    obtain ⟨hp, hz⟩ := HC.out w1 hb1
    have HP1 := Lib.hid hp; have HZ1 := Lib.hid hz
    have HB1 := Lib.hid (HBWA.out.trans (hb1.mono HBWA.out.size))
    clear hp hz hb1 HP HC HM HBWA
    go_wp2_with fail
    refine (H1.out _).mono ?_
    rintro e w' ⟨rfl, rfl⟩
    go_wp2_with fail
    refine (H2.out _).mono ?_
    rintro e w' ⟨rfl, rfl⟩
    have c0 : w1.cell? ⟨w.heap.size, 0, none⟩ = some (.int .i64 s.last) := (HP1.out).cell 0
    have c1 : w1.cell? ⟨w.heap.size, 1, none⟩ = some (.int .i64 s.ahead) := (HP1.out).cell 1
    have c2 : w1.cell? ⟨w.heap.size, 2, none⟩ = some (.int .i64 s.behind) := (HP1.out).cell 2
    have c3 : w1.cell? ⟨w.heap.size, 3, none⟩ = some (.bool s.free) := (HP1.out).cell 3
    rw [hfr] at c3
    clear hfr
    clear HP1
    have HR := Lib.hid (has_row11 HZ1.out #[.int .i64 t, .int .i64 s.ahead, .int .i64 s.behind, .bool false])
    have HBF := Lib.hid (below_row (g := w.heap.size + 1) HB1.out (by omega) #[.int .i64 t, .int .i64 s.ahead, .int .i64 s.behind, .bool false])
    go_wp2_with (with_reducible refine wpList_store_rowTo (o := ⟨none, _, _, _, _, _⟩) rfl 23 _ _ rfl rfl (w.heap.size + 1) #[.int .i64 t, .int .i64 s.ahead, .int .i64 s.behind, .bool false] rfl rfl 23 _ (HZ1.out).raw11 (by kernel_rfl) (by kernel_rfl) (by kernel_rfl) ?_)
    refine bodyPost_ret (results_row_tmp11 rfl _ _ (w.heap.size + 1) 23 _ _ rfl HR.out Try.underlying23 rfl (by kernel_rfl)) rfl ?_
    exact ⟨rfl, HBF.out⟩
end Go.Proofs.Ytjfndnpjcicogaa
