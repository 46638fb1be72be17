/-
  stamp: New, Release, Later and Take, the program's and the document's own.
-/
import Derived.Test.YtjfndnpjcicogaaSpA
namespace Go.Proofs.Ytjfndnpjcicogaa
open Go.RowKit
open Go.Great

def newE (a b : Int) : Int := if isT a = true ∧ isT b = true then 0 else 1
def newS (a b : Int) : Stp := if isT a = true ∧ isT b = true then ⟨-1, a, b, false⟩ else stp0
def laterB (a b : Int) : Bool := isT a && isT b && isT (a + b)
def laterE (a b : Int) : Int := if laterB a b = true then 0 else 7
def laterS (a b : Int) : Int := if laterB a b = true then a + b else 0
def relS (s : Stp) : Stp := { s with free := true }
def stale (s : Stp) (t now : Int) : Prop := t < now - s.behind ∨ now + s.ahead < t ∨ (s.free = false ∧ t ≤ s.last)
def fitB (s : Stp) (t now : Int) : Bool := mayS s && isT t && isT now
instance (s : Stp) (t now : Int) : Decidable (stale s t now) := by unfold stale; infer_instance
def takeE (s : Stp) (t now : Int) : Int := if fitB s t now = true then (if stale s t now then 110 else 0) else 1
def takeS (s : Stp) (t now : Int) : Stp := if takeE s t now = 0 then ⟨t, s.ahead, s.behind, false⟩ else stp0
def pairI (x y : Int) : Value := .tuple #[.int .i64 x, .int .i64 y]
def stE (s : Stp) (e : Int) : Value := .tuple #[stV s, .int .i64 e]

set_option maxRecDepth 100000 in
set_option maxHeartbeats 2000000 in
theorem later_any (a b : Int) (w : World) :
    Calls Try.prog 17 #[.int .i64 a, .int .i64 b] w fun e w' => e = .returned (pairI (laterS a b) (laterE a b)) ∧ w = w' := by
  have H1 := Lib.hid (time_any a w)
  have H2 := Lib.hid (time_any b w)
  unfold laterS laterE laterB pairI
  by_cases ha : isT a = true
  · by_cases hb : isT b = true
    · obtain ⟨c, hc⟩ : ∃ c, a + b = c := ⟨_, rfl⟩
      have hr : wrap64 (a + b) = c := by
        have h1 := (isT_iff a).1 ha
        have h2 := (isT_iff b).1 hb
        rw [← hc]
        exact IntWalk.wrap64_in _ (by omega)
      have H3 := Lib.hid (time_any c w)
      rw [hc]
      rw [ha] at H1 ⊢
      rw [hb] at H2 ⊢
      simp only [Bool.true_and]
      generalize isT c = d at *
      clear ha hb hc
      cases d with
      | false =>
        go_enter Try.func17, Try.ntmps17
        go_wp2_with fail
        refine H1.out.mono ?_
        rintro e w' ⟨rfl, rfl⟩
        go_wp2_with fail
        refine H2.out.mono ?_
        rintro e w' ⟨rfl, rfl⟩
        go_wp2_with fail
        refine H3.out.mono ?_
        rintro e w' ⟨rfl, rfl⟩
        go_wp2
        go_ret2
        exact ⟨rfl, rfl⟩
      | true =>
        go_enter Try.func17, Try.ntmps17
        go_wp2_with fail
        refine H1.out.mono ?_
        rintro e w' ⟨rfl, rfl⟩
        go_wp2_with fail
        refine H2.out.mono ?_
        rintro e w' ⟨rfl, rfl⟩
        go_wp2_with fail
        refine H3.out.mono ?_
        rintro e w' ⟨rfl, rfl⟩
        go_wp2
        go_ret2
        exact ⟨rfl, rfl⟩
    · rw [Bool.not_eq_true] at hb
      rw [ha] at H1 ⊢
      rw [hb] at H2 ⊢
      clear ha hb
      go_enter Try.func17, Try.ntmps17
      go_wp2_with fail
      refine H1.out.mono ?_
      rintro e w' ⟨rfl, rfl⟩
      go_wp2_with fail
      refine H2.out.mono ?_
      rintro e w' ⟨rfl, rfl⟩
      go_wp2
      go_ret2
      exact ⟨rfl, rfl⟩
  · rw [Bool.not_eq_true] at ha
    rw [ha] at H1 ⊢
    clear ha
    go_enter Try.func17, Try.ntmps17
    go_wp2_with fail
    refine H1.out.mono ?_
    rintro e w' ⟨rfl, rfl⟩
    go_wp2
    go_ret2
    exact ⟨rfl, rfl⟩

set_option maxRecDepth 100000 in
set_option maxHeartbeats 2000000 in
theorem rlater_any (a b : Int) (w : World) :
    Calls Try.prog 18 #[.int .i64 a, .int .i64 b] w fun e w' => e = .returned (pairI (laterS a b) (laterE a b)) ∧ w = w' := by
  have H1 := Lib.hid (rtime_any a w)
  have H2 := Lib.hid (rtime_any b w)
  unfold laterS laterE laterB pairI
  by_cases ha : isT a = true
  · by_cases hb : isT b = true
    · obtain ⟨c, hc⟩ : ∃ c, a + b = c := ⟨_, rfl⟩
      have hr : wrap64 (a + b) = c := by
        have h1 := (isT_iff a).1 ha
        have h2 := (isT_iff b).1 hb
        rw [← hc]
        exact IntWalk.wrap64_in _ (by omega)
      have H3 := Lib.hid (rtime_any c w)
      rw [hc]
      rw [ha] at H1 ⊢
      rw [hb] at H2 ⊢
      simp only [Bool.true_and]
      generalize isT c = d at *
      clear ha hb hc
      cases d with
      | false =>
        go_enter Try.func18, Try.ntmps18
        go_wp2_with fail
        refine H1.out.mono ?_
        rintro e w' ⟨rfl, rfl⟩
        go_wp2_with fail
        refine H2.out.mono ?_
        rintro e w' ⟨rfl, rfl⟩
        go_wp2_with fail
        refine H3.out.mono ?_
        rintro e w' ⟨rfl, rfl⟩
        go_wp2
        go_ret2
        exact ⟨rfl, rfl⟩
      | true =>
        go_enter Try.func18, Try.ntmps18
        go_wp2_with fail
        refine H1.out.mono ?_
        rintro e w' ⟨rfl, rfl⟩
        go_wp2_with fail
        refine H2.out.mono ?_
        rintro e w' ⟨rfl, rfl⟩
        go_wp2_with fail
        refine H3.out.mono ?_
        rintro e w' ⟨rfl, rfl⟩
        go_wp2
        go_ret2
        exact ⟨rfl, rfl⟩
    · rw [Bool.not_eq_true] at hb
      rw [ha] at H1 ⊢
      rw [hb] at H2 ⊢
      clear ha hb
      go_enter Try.func18, Try.ntmps18
      go_wp2_with fail
      refine H1.out.mono ?_
      rintro e w' ⟨rfl, rfl⟩
      go_wp2_with fail
      refine H2.out.mono ?_
      rintro e w' ⟨rfl, rfl⟩
      go_wp2
      go_ret2
      exact ⟨rfl, rfl⟩
  · rw [Bool.not_eq_true] at ha
    rw [ha] at H1 ⊢
    generalize isT b = bb at *
    clear ha
    go_enter Try.func18, Try.ntmps18
    go_wp2_with fail
    refine H1.out.mono ?_
    rintro e w' ⟨rfl, rfl⟩
    go_wp2_with fail
    refine H2.out.mono ?_
    rintro e w' ⟨rfl, rfl⟩
    go_wp2
    go_ret2
    exact ⟨rfl, rfl⟩

set_option maxRecDepth 100000 in
set_option maxHeartbeats 2000000 in
theorem rel_any (s : Stp) (w : World) :
    Calls Try.prog 13 #[stV s] w fun e w' => e = .returned (stV (relS s)) ∧ Below w.heap.size w w' := by
  obtain ⟨wa, hwa⟩ : ∃ wa, (w.alloc (.cells (stA s) 23)).alloc (.cells #[.int .i64 0, .int .i64 0, .int .i64 0, .bool false] 23) = wa := ⟨_, rfl⟩
  have hbwa : Below w.heap.size w wa := by rw [← hwa]; exact ((Below.refl _ _).alloc (Nat.le_refl _) _).alloc (by simp) _
  have h0 : Has wa (w.heap.size) 23 (stA s) := by rw [← hwa]; exact ((Has.made _ _ _).beside _)
  have h1 : Has wa (w.heap.size + 1) 23 #[.int .i64 0, .int .i64 0, .int .i64 0, .bool false] := by rw [← hwa]; exact (has_at11 (by simp))
  have HWA := Lib.hid hwa; have HBWA := Lib.hid hbwa
  have c3 : wa.cell? ⟨w.heap.size, 3, none⟩ = some (.bool s.free) := h0.cell 3
  have f3 := h0.thaw 3
  obtain ⟨wb, hwb⟩ : ∃ wb, wa.setCell ⟨w.heap.size, 3, none⟩ (.bool true) = wb := ⟨_, rfl⟩
  have hp : Has wb (w.heap.size) 23 (stA (relS s)) := by rw [← hwb]; exact (h0.stored 3 _).is11 (by kernel_rfl)
  have hz : Has wb (w.heap.size + 1) 23 #[.int .i64 0, .int .i64 0, .int .i64 0, .bool false] := by rw [← hwb]; exact h1.apart (p := ⟨w.heap.size, 3, none⟩) (by show _ ≠ w.heap.size; omega) _
  have hbb : Below w.heap.size w wb := by rw [← hwb]; exact hbwa.setCell (p := ⟨w.heap.size, 3, none⟩) (Nat.le_refl _) _
  have HWB := Lib.hid hwb
  have HP := Lib.hid hp; have HZ := Lib.hid hz
  have HR := Lib.hid (has_row11 hz (stA (relS s)))
  have HBF := Lib.hid (below_row (g := w.heap.size + 1) hbb (by omega) (stA (relS s)))
  clear hwa hbwa h0 h1 hwb hp hz hbb
  unfold stV
  go_enter Try.func13, Try.ntmps13
  go_upto_region 1 with fail
  rw [HWA.out]
  go_upto_region 2 with fail
  rw [HWB.out]
  clear c3 f3 HWA HWB
  go_wp2_with (first | (with_reducible refine wpList_load_row (o := ⟨some 4, _, _, _, _, _⟩) rfl 23 _ rfl (w.heap.size) rfl 23 (stA (relS s)) (0, 0) _ (HP.out).raw11 Try.underlying23 rfl (by kernel_rfl) ?_) | (with_reducible refine wpList_store_rowTo (o := ⟨none, _, _, _, _, _⟩) rfl 23 _ _ rfl rfl (w.heap.size + 1) (stA (relS s)) rfl rfl 23 _ (HZ.out).raw11 (by kernel_rfl) (by kernel_rfl) (by kernel_rfl) ?_))
  refine bodyPost_ret (results_cell_row rfl _ _ (w.heap.size + 1) 23 _ _ _ rfl HR.out Try.underlying23 rfl (by kernel_rfl)) rfl ?_
  exact ⟨rfl, HBF.out⟩

set_option maxRecDepth 100000 in
set_option maxHeartbeats 2000000 in
theorem rrel_any (s : Stp) (w : World) :
    Calls Try.prog 14 #[stV s] w fun e w' => e = .returned (stV (relS s)) ∧ Below w.heap.size w w' := by
  obtain ⟨wa, hwa⟩ : ∃ wa, (w.alloc (.cells (stA s) 23)).alloc (.cells #[.int .i64 0, .int .i64 0, .int .i64 0, .bool false] 23) = wa := ⟨_, rfl⟩
  have hbwa : Below w.heap.size w wa := by rw [← hwa]; exact ((Below.refl _ _).alloc (Nat.le_refl _) _).alloc (by simp) _
  have h0 : Has wa (w.heap.size) 23 (stA s) := by rw [← hwa]; exact ((Has.made _ _ _).beside _)
  have h1 : Has wa (w.heap.size + 1) 23 #[.int .i64 0, .int .i64 0, .int .i64 0, .bool false] := by rw [← hwa]; exact (has_at11 (by simp))
  have HWA := Lib.hid hwa; have HBWA := Lib.hid hbwa
  have c0 : wa.cell? ⟨w.heap.size, 0, none⟩ = some (.int .i64 s.last) := (h0).cell 0
  have c1 : wa.cell? ⟨w.heap.size, 1, none⟩ = some (.int .i64 s.ahead) := (h0).cell 1
  have c2 : wa.cell? ⟨w.heap.size, 2, none⟩ = some (.int .i64 s.behind) := (h0).cell 2
  have HZ := Lib.hid h1
  have HR := Lib.hid (has_row11 h1 (stA (relS s)))
  have HBF := Lib.hid (below_row (g := w.heap.size + 1) hbwa (by omega) (stA (relS s)))
  clear hwa hbwa h0 h1
  unfold stV
  go_enter Try.func14, Try.ntmps14
  go_upto_region 1 with fail
  rw [HWA.out]
  clear HWA
  go_wp2_with (with_reducible refine wpList_store_rowTo (o := ⟨none, _, _, _, _, _⟩) rfl 23 _ _ rfl rfl (w.heap.size + 1) (stA (relS s)) rfl rfl 23 _ (HZ.out).raw11 (by kernel_rfl) (by kernel_rfl) (by kernel_rfl) ?_)
  refine bodyPost_ret (results_cell_row rfl _ _ (w.heap.size + 1) 23 _ _ _ rfl HR.out Try.underlying23 rfl (by kernel_rfl)) rfl ?_
  exact ⟨rfl, HBF.out⟩

end Go.Proofs.Ytjfndnpjcicogaa
