/-
  linesidelaw11.StampNew, walked.
-/
import Derived.Test.YtjfndnpjcicogaaSpEq
namespace Go.Proofs.Ytjfndnpjcicogaa
open Go.RowKit
open Go.Great

theorem new_may (a b : Int) : mayS (newS a b) = true := by
  unfold newS
  split
  next h => unfold mayS; rw [h.1, h.2]; rfl
  next => rfl

set_option maxRecDepth 100000 in
set_option maxHeartbeats 2000000 in
theorem stampNew_walk (a b : Int) (w : World) (_wa : (Lit.int .i64 a).wf = true) (_wb : (Lit.int .i64 b).wf = true) :
    Calls Try.prog 4 #[.int .i64 a, .int .i64 b] w fun e w' => e = .returned (.bool true) ∧ Below w.heap.size w w' := by
  have hN := fun W => new_any a b W
  have hR := fun W => rnew_any a b W
  have hL := fun W => later_any a b W
  have hQ := fun W => rlater_any a b W
  have hM := fun W => may_any (newS a b) W
  rw [new_may] at hM
  have HAW := Lib.hid (awake11_any w)
  generalize newS a b = s at *
  generalize newE a b = e at *
  generalize laterS a b = x at *
  generalize laterE a b = y at *
  unfold stE stV at hN hR
  unfold stV at hM
  unfold pairI at hL hQ
  have HN := Lib.hid hN; have HR := Lib.hid hR; have HL := Lib.hid hL; have HQ := Lib.hid hQ; have HM := Lib.hid hM
  clear hN hR hL hQ hM
  go_enter Try.func4, Try.ntmps4
  have HB0 : Hid (Below w.heap.size w w) := Lib.hid (Below.refl _ _)
  obtain s0 := HB0.out
  have HK := Lib.hid (HAW.out)
  clear s0
  go_wp2_with fail
  refine HK.out.mono ?_
  rintro e v1 ⟨rfl, hb1⟩
  obtain s0 := HB0.out
  have hbn : Below w.heap.size w v1 := hb1
  have HB1 : Hid (Below w.heap.size w v1) := Lib.hid (s0.trans (hbn.mono s0.size))
  clear s0
  clear HK HB0 HAW hb1
  clear hbn
  obtain s0 := HB1.out
  have HK := Lib.hid (HN.out v1)
  clear s0
  go_wp2_with fail
  refine HK.out.mono ?_
  rintro e v2 ⟨rfl, hb1⟩
  obtain s0 := HB1.out
  have hbn : Below v1.heap.size v1 v2 := hb1
  have HB2 : Hid (Below w.heap.size w v2) := Lib.hid (s0.trans (hbn.mono s0.size))
  clear s0
  clear HK HB1 HN hb1
  clear hbn
  obtain s0 := HB2.out
  have le2_2 : w.heap.size ≤ v2.heap.size := s0.size
  have HS0 : Hid (Has (v2.alloc (.cells #[.int .i64 0, .int .i64 0, .int .i64 0, .bool false] 23)) (v2.heap.size) 23 #[.int .i64 0, .int .i64 0, .int .i64 0, .bool false]) := Lib.hid (Has.made v2 23 #[.int .i64 0, .int .i64 0, .int .i64 0, .bool false])
  obtain ⟨v3, hv3⟩ : ∃ v3, (v2.alloc (.cells #[.int .i64 0, .int .i64 0, .int .i64 0, .bool false] 23)).setRow (v2.heap.size) (stA s) = v3 := ⟨_, rfl⟩
  have hbw : Below v2.heap.size v2 v3 := by rw [← hv3]; exact (below_row (g := v2.heap.size) (Below.alloc (Below.refl v2.heap.size v2) (Nat.le_refl _) (.cells #[.int .i64 0, .int .i64 0, .int .i64 0, .bool false] 23)) (by omega) (stA s))
  have HB3 : Hid (Has v3 (v2.heap.size) 23 (stA s) ∧ Below w.heap.size w v3) := Lib.hid ⟨(by rw [← hv3]; exact (has_row11 (Has.made v2 23 #[.int .i64 0, .int .i64 0, .int .i64 0, .bool false]) (stA s))), s0.trans (hbw.mono s0.size)⟩
  clear hbw
  have HWv3 := Lib.hid hv3
  clear s0
  clear hv3 HB2
  go_upto_region 3 with (first | (with_reducible refine wpList_store_rowTo (o := ⟨none, _, _, _, _, _⟩) rfl 23 _ _ rfl rfl (v2.heap.size) (stA s) rfl rfl 23 _ (HS0.out).raw11 (by kernel_rfl) (by kernel_rfl) (by kernel_rfl) ?_))
  rw [HWv3.out]
  clear HWv3 HS0
  obtain ⟨s0, s1⟩ := HB3.out
  have HK := Lib.hid (HR.out v3)
  clear s0 s1
  go_wp2_with fail
  refine HK.out.mono ?_
  rintro e v4 ⟨rfl, hb1⟩
  obtain ⟨s0, s1⟩ := HB3.out
  have hbn : Below v3.heap.size v3 v4 := hb1
  have HB4 : Hid (Has v4 (v2.heap.size) 23 (stA s) ∧ Below w.heap.size w v4) := Lib.hid ⟨s0.under hbn s0.lt, s1.trans (hbn.mono s1.size)⟩
  clear s0 s1
  clear HK HB3 HR hb1
  clear hbn
  obtain ⟨s0, s1⟩ := HB4.out
  have lt4_4 : v2.heap.size < v4.heap.size := s0.lt
  have le4_4 : w.heap.size ≤ v4.heap.size := s1.size
  have HS0 : Hid (Has (v4.alloc (.cells #[.int .i64 0, .int .i64 0, .int .i64 0, .bool false] 23)) (v4.heap.size) 23 #[.int .i64 0, .int .i64 0, .int .i64 0, .bool false]) := Lib.hid (Has.made v4 23 #[.int .i64 0, .int .i64 0, .int .i64 0, .bool false])
  obtain ⟨v5, hv5⟩ : ∃ v5, (v4.alloc (.cells #[.int .i64 0, .int .i64 0, .int .i64 0, .bool false] 23)).setRow (v4.heap.size) (stA s) = v5 := ⟨_, rfl⟩
  have hbw : Below v4.heap.size v4 v5 := by rw [← hv5]; exact (below_row (g := v4.heap.size) (Below.alloc (Below.refl v4.heap.size v4) (Nat.le_refl _) (.cells #[.int .i64 0, .int .i64 0, .int .i64 0, .bool false] 23)) (by omega) (stA s))
  have HB5 : Hid (Has v5 (v2.heap.size) 23 (stA s) ∧ Has v5 (v4.heap.size) 23 (stA s) ∧ Below w.heap.size w v5) := Lib.hid ⟨s0.under hbw s0.lt, (by rw [← hv5]; exact (has_row11 (Has.made v4 23 #[.int .i64 0, .int .i64 0, .int .i64 0, .bool false]) (stA s))), s1.trans (hbw.mono s1.size)⟩
  clear hbw
  have HWv5 := Lib.hid hv5
  clear s0 s1
  clear hv5 HB4
  go_upto_region 4 with (first | (with_reducible refine wpList_store_rowTo (o := ⟨none, _, _, _, _, _⟩) rfl 23 _ _ rfl rfl (v4.heap.size) (stA s) rfl rfl 23 _ (HS0.out).raw11 (by kernel_rfl) (by kernel_rfl) (by kernel_rfl) ?_))
  rw [HWv5.out]
  clear HWv5 HS0
  go_wp2_with fail
  refine (HL.out _).mono ?_
  rintro e' w' ⟨rfl, rfl⟩
  go_wp2_with fail
  refine (HQ.out _).mono ?_
  rintro e' w' ⟨rfl, rfl⟩
  clear HL HQ
  obtain ⟨s0, s1, s2⟩ := HB5.out
  have HL0 := Lib.hid s0; have HL1 := Lib.hid s1
  clear s0 s1 s2
  go_wp2_with (first | ((with_reducible refine at_slot11 41 ?_); refine wpList_load_rowW11 (o := ⟨some 41, _, _, _, _, _⟩) 23 _ rfl (by kernel_rfl) (v2.heap.size) rfl 23 (stA s) (0, 0) _ (HL0.out).raw11 Try.underlying23 rfl (by kernel_rfl) ?_) | ((with_reducible refine at_slot11 42 ?_); refine wpList_load_rowW11 (o := ⟨some 42, _, _, _, _, _⟩) 23 _ rfl (by kernel_rfl) (v4.heap.size) rfl 23 (stA s) (0, 0) _ (HL1.out).raw11 Try.underlying23 rfl (by kernel_rfl) ?_) | ((with_reducible refine at_slot11 61 ?_); refine wpList_load_rowW11 (o := ⟨some 61, _, _, _, _, _⟩) 23 _ rfl (by kernel_rfl) (v2.heap.size) rfl 23 (stA s) (0, 0) _ (HL0.out).raw11 Try.underlying23 rfl (by kernel_rfl) ?_) | ((with_reducible refine at_slot11 43 ?_); refine wpList_aggCmp11 (o := ⟨some 43, _, _, _, _, _⟩) .eql 23 _ _ _ rfl (by kernel_rfl) _ _ rfl rfl st_plain11 _ (eql_st11 s _) ?_))
  refine (HM.out _).mono ?_
  rintro e' w9 ⟨rfl, hb1⟩
  obtain ⟨s0, s1, s2⟩ := HB5.out
  have HBF := Lib.hid (s2.trans (hb1.mono s2.size))
  clear s0 s1 s2
  clear hb1 HL0 HL1
  go_wp2
  go_ret
  exact ⟨by simp, HBF.out⟩
end Go.Proofs.Ytjfndnpjcicogaa
