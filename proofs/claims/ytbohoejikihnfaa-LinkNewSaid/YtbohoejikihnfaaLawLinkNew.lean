/-
  linesidelaw12.LinkNew, walked.
-/
import Derived.Test.YtbohoejikihnfaaLawAwake12

namespace Go.Proofs.Ytbohoejikihnfaa

open Go.RowKit

open Go.Great

theorem newL_ws (p m q h : Int) : (newL p m q h).ws = [] := by
  unfold newL; split <;> rfl
set_option maxRecDepth 100000 in
set_option maxHeartbeats 8000000 in
theorem linkNew_walk (p m q h : Int) (w : World) (_wp : (Lit.int .i64 p).wf = true) (_wm : (Lit.int .i64 m).wf = true) (_wq : (Lit.int .i64 q).wf = true) (_wh : (Lit.int .i64 h).wf = true) :
    Calls Try.prog 4 #[.int .i64 p, .int .i64 m, .int .i64 q, .int .i64 h] w fun e w' => e = .returned (.bool true) ∧ Below w.heap.size w w' := by
  have hN := fun W => olk_new p m q h W
  have hR := fun W => rnew12_any p m q h W
  have hws := newL_ws p m q h
  generalize newL p m q h = r at *
  generalize newE12 p m q h = e at *
  obtain ⟨p1, m1, q1, h1, ws1⟩ := r
  dsimp only at hws
  subst hws
  have hS := fun W => lsame_any (P := fun _ => True) (Q := fun _ => True) (⟨p1, m1, q1, h1, []⟩ : L0) ⟨p1, m1, q1, h1, []⟩ true (by simp) none 0 none 0 W (WsR.nil W) (WsR.nil W) (by simp)
  have HAW := Lib.hid (awake12_any w)
  have HN := Lib.hid hN; have HR := Lib.hid hR; have HSM := Lib.hid hS
  clear hN hR hS
  go_enter Try.func4, Try.ntmps4
  have HB0 : Hid (Below w.heap.size w w) := Lib.hid (Below.refl _ _)
  obtain s0 := HB0.out
  have HK := Lib.hid (HAW.out)
  clear s0
  go_wp2_with fail
  refine HK.out.mono ?_
  rintro e v1 ⟨rfl, hb1⟩
  obtain s0 := HB0.out
  have hbn : Below w.heap.size w v1 := hb1
  have HB1 : Hid (Below w.heap.size w v1) := Lib.hid (s0.trans (hbn.mono s0.size))
  clear s0
  clear HK HB0 HAW hb1
  clear hbn
  obtain s0 := HB1.out
  have HK := Lib.hid (HN.out v1)
  clear s0
  go_wp2_with fail
  refine HK.out.mono ?_
  rintro e v2 ⟨rfl, hb1⟩
  obtain s0 := HB1.out
  have hbn : Below v1.heap.size v1 v2 := hb1
  have HB2 : Hid (Below w.heap.size w v2) := Lib.hid (s0.trans (hbn.mono s0.size))
  clear s0
  clear HK HB1 HN hb1
  clear hbn
  obtain s0 := HB2.out
  have le2_2 : w.heap.size ≤ v2.heap.size := s0.size
  have HS0 : Hid (Has (v2.alloc (.cells #[.int .i64 0, .int .i64 0, .int .i64 0, .int .i64 0, .slice none 0 0] 24)) (v2.heap.size) 24 #[.int .i64 0, .int .i64 0, .int .i64 0, .int .i64 0, .slice none 0 0]) := Lib.hid (Has.made v2 24 #[.int .i64 0, .int .i64 0, .int .i64 0, .int .i64 0, .slice none 0 0])
  obtain ⟨v3, hv3⟩ : ∃ v3, (v2.alloc (.cells #[.int .i64 0, .int .i64 0, .int .i64 0, .int .i64 0, .slice none 0 0] 24)).setRow (v2.heap.size) (lkC ⟨p1, m1, q1, h1, []⟩ none 0) = v3 := ⟨_, rfl⟩
  have hbw : Below v2.heap.size v2 v3 := by rw [← hv3]; exact (below_row (g := v2.heap.size) (Below.alloc (Below.refl v2.heap.size v2) (Nat.le_refl _) (.cells #[.int .i64 0, .int .i64 0, .int .i64 0, .int .i64 0, .slice none 0 0] 24)) (by omega) (lkC ⟨p1, m1, q1, h1, []⟩ none 0))
  have HB3 : Hid (Has v3 (v2.heap.size) 24 (lkC ⟨p1, m1, q1, h1, []⟩ none 0) ∧ Below w.heap.size w v3) := Lib.hid ⟨(by rw [← hv3]; exact (has_row11 (Has.made v2 24 #[.int .i64 0, .int .i64 0, .int .i64 0, .int .i64 0, .slice none 0 0]) (lkC ⟨p1, m1, q1, h1, []⟩ none 0))), s0.trans (hbw.mono s0.size)⟩
  clear hbw
  have HWv3 := Lib.hid hv3
  clear s0
  clear hv3 HB2
  go_upto_region 3 with (first | (with_reducible refine wpList_store_rowTo (o := ⟨none, _, _, _, _, _⟩) rfl 24 _ _ rfl rfl (v2.heap.size) (lkC ⟨p1, m1, q1, h1, []⟩ none 0) rfl rfl 24 _ (HS0.out).raw11 (by kernel_rfl) (by kernel_rfl) (by kernel_rfl) ?_))
  rw [HWv3.out]
  clear HWv3 HS0
  obtain ⟨s0, s1⟩ := HB3.out
  have HK := Lib.hid (HR.out v3)
  clear s0 s1
  go_wp2_with fail
  refine HK.out.mono ?_
  rintro e v4 ⟨rfl, hb1⟩
  obtain ⟨s0, s1⟩ := HB3.out
  have hbn : Below v3.heap.size v3 v4 := hb1
  have HB4 : Hid (Has v4 (v2.heap.size) 24 (lkC ⟨p1, m1, q1, h1, []⟩ none 0) ∧ Below w.heap.size w v4) := Lib.hid ⟨s0.under hbn s0.lt, s1.trans (hbn.mono s1.size)⟩
  clear s0 s1
  clear HK HB3 HR hb1
  clear hbn
  obtain ⟨s0, s1⟩ := HB4.out
  have lt4_4 : v2.heap.size < v4.heap.size := s0.lt
  have le4_4 : w.heap.size ≤ v4.heap.size := s1.size
  have HS0 : Hid (Has (v4.alloc (.cells #[.int .i64 0, .int .i64 0, .int .i64 0, .int .i64 0, .slice none 0 0] 24)) (v4.heap.size) 24 #[.int .i64 0, .int .i64 0, .int .i64 0, .int .i64 0, .slice none 0 0]) := Lib.hid (Has.made v4 24 #[.int .i64 0, .int .i64 0, .int .i64 0, .int .i64 0, .slice none 0 0])
  obtain ⟨v5, hv5⟩ : ∃ v5, (v4.alloc (.cells #[.int .i64 0, .int .i64 0, .int .i64 0, .int .i64 0, .slice none 0 0] 24)).setRow (v4.heap.size) (lkC ⟨p1, m1, q1, h1, []⟩ none 0) = v5 := ⟨_, rfl⟩
  have hbw : Below v4.heap.size v4 v5 := by rw [← hv5]; exact (below_row (g := v4.heap.size) (Below.alloc (Below.refl v4.heap.size v4) (Nat.le_refl _) (.cells #[.int .i64 0, .int .i64 0, .int .i64 0, .int .i64 0, .slice none 0 0] 24)) (by omega) (lkC ⟨p1, m1, q1, h1, []⟩ none 0))
  have HB5 : Hid (Has v5 (v2.heap.size) 24 (lkC ⟨p1, m1, q1, h1, []⟩ none 0) ∧ Has v5 (v4.heap.size) 24 (lkC ⟨p1, m1, q1, h1, []⟩ none 0) ∧ Below w.heap.size w v5) := Lib.hid ⟨s0.under hbw s0.lt, (by rw [← hv5]; exact (has_row11 (Has.made v4 24 #[.int .i64 0, .int .i64 0, .int .i64 0, .int .i64 0, .slice none 0 0]) (lkC ⟨p1, m1, q1, h1, []⟩ none 0))), s1.trans (hbw.mono s1.size)⟩
  clear hbw
  have HWv5 := Lib.hid hv5
  clear s0 s1
  clear hv5 HB4
  go_upto_region 4 with (first | (with_reducible refine wpList_store_rowTo (o := ⟨none, _, _, _, _, _⟩) rfl 24 _ _ rfl rfl (v4.heap.size) (lkC ⟨p1, m1, q1, h1, []⟩ none 0) rfl rfl 24 _ (HS0.out).raw11 (by kernel_rfl) (by kernel_rfl) (by kernel_rfl) ?_))
  rw [HWv5.out]
  clear HWv5 HS0
  obtain ⟨s0, s1, s2⟩ := HB5.out
  have HL0 := Lib.hid s0
  have HL1 := Lib.hid s1
  have HK := Lib.hid (HSM.out v5)
  clear s0 s1 s2
  go_wp2_with (first | (with_reducible refine wpList_load_row (o := ⟨some 32, _, _, _, _, _⟩) rfl 24 _ rfl (v2.heap.size) rfl 24 (lkC ⟨p1, m1, q1, h1, []⟩ none 0) (0, 0) _ (HL0.out).raw11 Try.underlying24 rfl (by kernel_rfl) ?_) | (with_reducible refine wpList_load_row (o := ⟨some 33, _, _, _, _, _⟩) rfl 24 _ rfl (v4.heap.size) rfl 24 (lkC ⟨p1, m1, q1, h1, []⟩ none 0) (0, 0) _ (HL1.out).raw11 Try.underlying24 rfl (by kernel_rfl) ?_))
  refine HK.out.mono ?_
  rintro e v6 ⟨rfl, hb1⟩
  obtain ⟨s0, s1, s2⟩ := HB5.out
  have hbn : Below v5.heap.size v5 v6 := hb1
  have HB6 : Hid (Has v6 (v2.heap.size) 24 (lkC ⟨p1, m1, q1, h1, []⟩ none 0) ∧ Has v6 (v4.heap.size) 24 (lkC ⟨p1, m1, q1, h1, []⟩ none 0) ∧ Below w.heap.size w v6) := Lib.hid ⟨s0.under hbn s0.lt, s1.under hbn s1.lt, s2.trans (hbn.mono s2.size)⟩
  clear s0 s1 s2
  clear HK HB5 HL0 HL1 HSM hb1
  clear hbn
  have HBF := Lib.hid HB6.out.2.2
  go_wp2
  go_ret
  exact ⟨by simp, HBF.out⟩
end Go.Proofs.Ytbohoejikihnfaa
