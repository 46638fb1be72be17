/-
  linesidelaw11: awake.
-/
import Derived.Test.YtjfndnpjcicogaaSpD
namespace Go.Proofs.Ytjfndnpjcicogaa
open Go.RowKit
open Go.Great

set_option maxRecDepth 100000 in
set_option maxHeartbeats 2000000 in
theorem awake11_any (w : World) : Calls Try.prog 8 #[] w fun e w' => e = .returned (.bool true) ∧ Below w.heap.size w w' := by
  have HN : Hid (∀ W, Calls Try.prog 15 #[.int .i64 10, .int .i64 100] W fun e w' => e = .returned (.tuple #[.agg (stA ⟨-1, 10, 100, false⟩), .int .i64 0]) ∧ Below W.heap.size W w') := Lib.hid (fun W => (show stE (newS 10 100) (newE 10 100) = .tuple #[.agg (stA ⟨-1, 10, 100, false⟩), .int .i64 0] from by kernel_rfl) ▸ new_any 10 100 W)
  have HT1 : Hid (∀ W, Calls Try.prog 9 #[.agg (stA ⟨-1, 10, 100, false⟩), .int .i64 50, .int .i64 60] W fun e w' => e = .returned (.tuple #[.agg (stA ⟨50, 10, 100, false⟩), .int .i64 0]) ∧ Below W.heap.size W w') := Lib.hid (fun W => (show stE (takeS ⟨-1, 10, 100, false⟩ 50 60) (takeE ⟨-1, 10, 100, false⟩ 50 60) = .tuple #[.agg (stA ⟨50, 10, 100, false⟩), .int .i64 0] from by kernel_rfl) ▸ take_any ⟨-1, 10, 100, false⟩ 50 60 W)
  have HT2 : Hid (∀ W, Calls Try.prog 9 #[.agg (stA ⟨50, 10, 100, false⟩), .int .i64 50, .int .i64 60] W fun e w' => e = .returned (.tuple #[.agg (stA stp0), .int .i64 110]) ∧ Below W.heap.size W w') := Lib.hid (fun W => (show stE (takeS ⟨50, 10, 100, false⟩ 50 60) (takeE ⟨50, 10, 100, false⟩ 50 60) = .tuple #[.agg (stA stp0), .int .i64 110] from by kernel_rfl) ▸ take_any ⟨50, 10, 100, false⟩ 50 60 W)
  have HT3 : Hid (∀ W, Calls Try.prog 9 #[.agg (stA ⟨50, 10, 100, false⟩), .int .i64 71, .int .i64 60] W fun e w' => e = .returned (.tuple #[.agg (stA stp0), .int .i64 110]) ∧ Below W.heap.size W w') := Lib.hid (fun W => (show stE (takeS ⟨50, 10, 100, false⟩ 71 60) (takeE ⟨50, 10, 100, false⟩ 71 60) = .tuple #[.agg (stA stp0), .int .i64 110] from by kernel_rfl) ▸ take_any ⟨50, 10, 100, false⟩ 71 60 W)
  have HT4 : Hid (∀ W, Calls Try.prog 9 #[.agg (stA ⟨50, 10, 100, false⟩), .int .i64 51, .int .i64 152] W fun e w' => e = .returned (.tuple #[.agg (stA stp0), .int .i64 110]) ∧ Below W.heap.size W w') := Lib.hid (fun W => (show stE (takeS ⟨50, 10, 100, false⟩ 51 152) (takeE ⟨50, 10, 100, false⟩ 51 152) = .tuple #[.agg (stA stp0), .int .i64 110] from by kernel_rfl) ▸ take_any ⟨50, 10, 100, false⟩ 51 152 W)
  have HT5 : Hid (∀ W, Calls Try.prog 9 #[.agg (stA ⟨50, 10, 100, true⟩), .int .i64 40, .int .i64 60] W fun e w' => e = .returned (.tuple #[.agg (stA ⟨40, 10, 100, false⟩), .int .i64 0]) ∧ Below W.heap.size W w') := Lib.hid (fun W => (show stE (takeS ⟨50, 10, 100, true⟩ 40 60) (takeE ⟨50, 10, 100, true⟩ 40 60) = .tuple #[.agg (stA ⟨40, 10, 100, false⟩), .int .i64 0] from by kernel_rfl) ▸ take_any ⟨50, 10, 100, true⟩ 40 60 W)
  have HRL : Hid (∀ W, Calls Try.prog 13 #[.agg (stA ⟨50, 10, 100, false⟩)] W fun e w' => e = .returned (.agg (stA ⟨50, 10, 100, true⟩)) ∧ Below W.heap.size W w') := Lib.hid (fun W => rel_any ⟨50, 10, 100, false⟩ W)
  go_enter Try.func8, Try.ntmps8
  have HB0 : Hid (Below w.heap.size w w) := Lib.hid (Below.refl _ _)
  obtain s0 := HB0.out
  have HK := Lib.hid (HN.out w)
  clear s0
  go_wp2_with fail
  refine HK.out.mono ?_
  rintro e v1 ⟨rfl, hb1⟩
  obtain s0 := HB0.out
  have hbn : Below w.heap.size w v1 := hb1
  have HB1 : Hid (Below w.heap.size w v1) := Lib.hid (s0.trans (hbn.mono s0.size))
  clear s0
  clear HK HB0 HN hb1
  clear hbn
  obtain s0 := HB1.out
  have le1_1 : w.heap.size ≤ v1.heap.size := s0.size
  have HS0 : Hid (Has (v1.alloc (.cells #[.int .i64 0, .int .i64 0, .int .i64 0, .bool false] 23)) (v1.heap.size) 23 #[.int .i64 0, .int .i64 0, .int .i64 0, .bool false]) := Lib.hid (Has.made v1 23 #[.int .i64 0, .int .i64 0, .int .i64 0, .bool false])
  obtain ⟨v2, hv2⟩ : ∃ v2, (v1.alloc (.cells #[.int .i64 0, .int .i64 0, .int .i64 0, .bool false] 23)).setRow (v1.heap.size) (stA ⟨-1, 10, 100, false⟩) = v2 := ⟨_, rfl⟩
  have hbw : Below v1.heap.size v1 v2 := by rw [← hv2]; exact (below_row (g := v1.heap.size) (Below.alloc (Below.refl v1.heap.size v1) (Nat.le_refl _) (.cells #[.int .i64 0, .int .i64 0, .int .i64 0, .bool false] 23)) (by omega) (stA ⟨-1, 10, 100, false⟩))
  have HB2 : Hid (Has v2 (v1.heap.size) 23 (stA ⟨-1, 10, 100, false⟩) ∧ Below w.heap.size w v2) := Lib.hid ⟨(by rw [← hv2]; exact (has_row11 (Has.made v1 23 #[.int .i64 0, .int .i64 0, .int .i64 0, .bool false]) (stA ⟨-1, 10, 100, false⟩))), s0.trans (hbw.mono s0.size)⟩
  clear hbw
  have HWv2 := Lib.hid hv2
  clear s0
  clear hv2 HB1
  go_upto_region 2 with (first | (with_reducible refine wpList_store_rowTo (o := ⟨none, _, _, _, _, _⟩) rfl 23 _ _ rfl rfl (v1.heap.size) (stA ⟨-1, 10, 100, false⟩) rfl rfl 23 _ (HS0.out).raw11 (by kernel_rfl) (by kernel_rfl) (by kernel_rfl) ?_))
  rw [HWv2.out]
  clear HWv2 HS0
  obtain ⟨s0, s1⟩ := HB2.out
  have HL0 := Lib.hid s0
  have HK := Lib.hid (HT1.out v2)
  clear s0 s1
  go_wp2_with (first | (with_reducible refine wpList_load_row (o := ⟨some 17, _, _, _, _, _⟩) rfl 23 _ rfl (v1.heap.size) rfl 23 (stA ⟨-1, 10, 100, false⟩) (0, 0) _ (HL0.out).raw11 Try.underlying23 rfl (by kernel_rfl) ?_))
  refine HK.out.mono ?_
  rintro e v3 ⟨rfl, hb1⟩
  obtain ⟨s0, s1⟩ := HB2.out
  have hbn : Below v2.heap.size v2 v3 := hb1
  have HB3 : Hid (Has v3 (v1.heap.size) 23 (stA ⟨-1, 10, 100, false⟩) ∧ Below w.heap.size w v3) := Lib.hid ⟨s0.under hbn s0.lt, s1.trans (hbn.mono s1.size)⟩
  clear s0 s1
  clear HK HB2 HL0 HT1 hb1
  clear hbn
  obtain ⟨s0, s1⟩ := HB3.out
  have HS0 : Hid (Has v3 (v1.heap.size) 23 (stA ⟨-1, 10, 100, false⟩)) := Lib.hid s0
  obtain ⟨v4, hv4⟩ : ∃ v4, v3.setRow (v1.heap.size) (stA ⟨50, 10, 100, false⟩) = v4 := ⟨_, rfl⟩
  have HB4 : Hid (Has v4 (v1.heap.size) 23 (stA ⟨50, 10, 100, false⟩) ∧ Below w.heap.size w v4) := Lib.hid (by rw [← hv4]; exact ⟨(has_row11 s0 (stA ⟨50, 10, 100, false⟩)), (below_row (g := v1.heap.size) s1 (by omega) (stA ⟨50, 10, 100, false⟩))⟩)
  have HWv4 := Lib.hid hv4
  clear s0 s1
  clear hv4 HB3
  go_upto_region 3 with (first | (with_reducible refine wpList_store_rowTo (o := ⟨none, _, _, _, _, _⟩) rfl 23 _ _ rfl rfl (v1.heap.size) (stA ⟨50, 10, 100, false⟩) rfl rfl 23 _ (HS0.out).raw11 (by kernel_rfl) (by kernel_rfl) (by kernel_rfl) ?_))
  rw [HWv4.out]
  clear HWv4 HS0
  obtain ⟨s0, s1⟩ := HB4.out
  have HL0 := Lib.hid s0
  have HK := Lib.hid (HT2.out v4)
  clear s0 s1
  go_wp2_with (first | (with_reducible refine wpList_load_row (o := ⟨some 22, _, _, _, _, _⟩) rfl 23 _ rfl (v1.heap.size) rfl 23 (stA ⟨50, 10, 100, false⟩) (0, 0) _ (HL0.out).raw11 Try.underlying23 rfl (by kernel_rfl) ?_))
  refine HK.out.mono ?_
  rintro e v5 ⟨rfl, hb1⟩
  obtain ⟨s0, s1⟩ := HB4.out
  have hbn : Below v4.heap.size v4 v5 := hb1
  have HB5 : Hid (Has v5 (v1.heap.size) 23 (stA ⟨50, 10, 100, false⟩) ∧ Below w.heap.size w v5) := Lib.hid ⟨s0.under hbn s0.lt, s1.trans (hbn.mono s1.size)⟩
  clear s0 s1
  clear HK HB4 HL0 HT2 hb1
  clear hbn
  obtain ⟨s0, s1⟩ := HB5.out
  have lt5_5 : v1.heap.size < v5.heap.size := s0.lt
  have le5_5 : w.heap.size ≤ v5.heap.size := s1.size
  have HS0 : Hid (Has (v5.alloc (.cells #[.int .i64 0, .int .i64 0, .int .i64 0, .bool false] 23)) (v5.heap.size) 23 #[.int .i64 0, .int .i64 0, .int .i64 0, .bool false]) := Lib.hid (Has.made v5 23 #[.int .i64 0, .int .i64 0, .int .i64 0, .bool false])
  obtain ⟨v6, hv6⟩ : ∃ v6, (v5.alloc (.cells #[.int .i64 0, .int .i64 0, .int .i64 0, .bool false] 23)).setRow (v5.heap.size) (stA stp0) = v6 := ⟨_, rfl⟩
  have hbw : Below v5.heap.size v5 v6 := by rw [← hv6]; exact (below_row (g := v5.heap.size) (Below.alloc (Below.refl v5.heap.size v5) (Nat.le_refl _) (.cells #[.int .i64 0, .int .i64 0, .int .i64 0, .bool false] 23)) (by omega) (stA stp0))
  have HB6 : Hid (Has v6 (v1.heap.size) 23 (stA ⟨50, 10, 100, false⟩) ∧ Has v6 (v5.heap.size) 23 (stA stp0) ∧ Below w.heap.size w v6) := Lib.hid ⟨s0.under hbw s0.lt, (by rw [← hv6]; exact (has_row11 (Has.made v5 23 #[.int .i64 0, .int .i64 0, .int .i64 0, .bool false]) (stA stp0))), s1.trans (hbw.mono s1.size)⟩
  clear hbw
  have HWv6 := Lib.hid hv6
  clear s0 s1
  clear hv6 HB5
  go_upto_region 4 with (first | (with_reducible refine wpList_store_rowTo (o := ⟨none, _, _, _, _, _⟩) rfl 23 _ _ rfl rfl (v5.heap.size) (stA stp0) rfl rfl 23 _ (HS0.out).raw11 (by kernel_rfl) (by kernel_rfl) (by kernel_rfl) ?_))
  rw [HWv6.out]
  clear HWv6 HS0
  obtain ⟨s0, s1, s2⟩ := HB6.out
  have HL0 := Lib.hid s0
  have HK := Lib.hid (HT3.out v6)
  clear s0 s1 s2
  go_wp2_with (first | (with_reducible refine wpList_load_row (o := ⟨some 27, _, _, _, _, _⟩) rfl 23 _ rfl (v1.heap.size) rfl 23 (stA ⟨50, 10, 100, false⟩) (0, 0) _ (HL0.out).raw11 Try.underlying23 rfl (by kernel_rfl) ?_))
  refine HK.out.mono ?_
  rintro e v7 ⟨rfl, hb1⟩
  obtain ⟨s0, s1, s2⟩ := HB6.out
  have hbn : Below v6.heap.size v6 v7 := hb1
  have HB7 : Hid (Has v7 (v1.heap.size) 23 (stA ⟨50, 10, 100, false⟩) ∧ Has v7 (v5.heap.size) 23 (stA stp0) ∧ Below w.heap.size w v7) := Lib.hid ⟨s0.under hbn s0.lt, s1.under hbn s1.lt, s2.trans (hbn.mono s2.size)⟩
  clear s0 s1 s2
  clear HK HB6 HL0 HT3 hb1
  clear hbn
  obtain ⟨s0, s1, s2⟩ := HB7.out
  have lt7_7 : v5.heap.size < v7.heap.size := s1.lt
  have le7_7 : w.heap.size ≤ v7.heap.size := s2.size
  have HS0 : Hid (Has (v7.alloc (.cells #[.int .i64 0, .int .i64 0, .int .i64 0, .bool false] 23)) (v7.heap.size) 23 #[.int .i64 0, .int .i64 0, .int .i64 0, .bool false]) := Lib.hid (Has.made v7 23 #[.int .i64 0, .int .i64 0, .int .i64 0, .bool false])
  obtain ⟨v8, hv8⟩ : ∃ v8, (v7.alloc (.cells #[.int .i64 0, .int .i64 0, .int .i64 0, .bool false] 23)).setRow (v7.heap.size) (stA stp0) = v8 := ⟨_, rfl⟩
  have hbw : Below v7.heap.size v7 v8 := by rw [← hv8]; exact (below_row (g := v7.heap.size) (Below.alloc (Below.refl v7.heap.size v7) (Nat.le_refl _) (.cells #[.int .i64 0, .int .i64 0, .int .i64 0, .bool false] 23)) (by omega) (stA stp0))
  have HB8 : Hid (Has v8 (v1.heap.size) 23 (stA ⟨50, 10, 100, false⟩) ∧ Has v8 (v5.heap.size) 23 (stA stp0) ∧ Has v8 (v7.heap.size) 23 (stA stp0) ∧ Below w.heap.size w v8) := Lib.hid ⟨s0.under hbw s0.lt, s1.under hbw s1.lt, (by rw [← hv8]; exact (has_row11 (Has.made v7 23 #[.int .i64 0, .int .i64 0, .int .i64 0, .bool false]) (stA stp0))), s2.trans (hbw.mono s2.size)⟩
  clear hbw
  have HWv8 := Lib.hid hv8
  clear s0 s1 s2
  clear hv8 HB7
  go_upto_region 5 with (first | (with_reducible refine wpList_store_rowTo (o := ⟨none, _, _, _, _, _⟩) rfl 23 _ _ rfl rfl (v7.heap.size) (stA stp0) rfl rfl 23 _ (HS0.out).raw11 (by kernel_rfl) (by kernel_rfl) (by kernel_rfl) ?_))
  rw [HWv8.out]
  clear HWv8 HS0
  obtain ⟨s0, s1, s2, s3⟩ := HB8.out
  have HL0 := Lib.hid s0
  have HK := Lib.hid (HT4.out v8)
  clear s0 s1 s2 s3
  go_wp2_with (first | (with_reducible refine wpList_load_row (o := ⟨some 32, _, _, _, _, _⟩) rfl 23 _ rfl (v1.heap.size) rfl 23 (stA ⟨50, 10, 100, false⟩) (0, 0) _ (HL0.out).raw11 Try.underlying23 rfl (by kernel_rfl) ?_))
  refine HK.out.mono ?_
  rintro e v9 ⟨rfl, hb1⟩
  obtain ⟨s0, s1, s2, s3⟩ := HB8.out
  have hbn : Below v8.heap.size v8 v9 := hb1
  have HB9 : Hid (Has v9 (v1.heap.size) 23 (stA ⟨50, 10, 100, false⟩) ∧ Has v9 (v5.heap.size) 23 (stA stp0) ∧ Has v9 (v7.heap.size) 23 (stA stp0) ∧ Below w.heap.size w v9) := Lib.hid ⟨s0.under hbn s0.lt, s1.under hbn s1.lt, s2.under hbn s2.lt, s3.trans (hbn.mono s3.size)⟩
  clear s0 s1 s2 s3
  clear HK HB8 HL0 HT4 hb1
  clear hbn
  obtain ⟨s0, s1, s2, s3⟩ := HB9.out
  have lt9_9 : v7.heap.size < v9.heap.size := s2.lt
  have le9_9 : w.heap.size ≤ v9.heap.size := s3.size
  have HS0 : Hid (Has (v9.alloc (.cells #[.int .i64 0, .int .i64 0, .int .i64 0, .bool false] 23)) (v9.heap.size) 23 #[.int .i64 0, .int .i64 0, .int .i64 0, .bool false]) := Lib.hid (Has.made v9 23 #[.int .i64 0, .int .i64 0, .int .i64 0, .bool false])
  obtain ⟨v10, hv10⟩ : ∃ v10, (v9.alloc (.cells #[.int .i64 0, .int .i64 0, .int .i64 0, .bool false] 23)).setRow (v9.heap.size) (stA stp0) = v10 := ⟨_, rfl⟩
  have hbw : Below v9.heap.size v9 v10 := by rw [← hv10]; exact (below_row (g := v9.heap.size) (Below.alloc (Below.refl v9.heap.size v9) (Nat.le_refl _) (.cells #[.int .i64 0, .int .i64 0, .int .i64 0, .bool false] 23)) (by omega) (stA stp0))
  have HB10 : Hid (Has v10 (v1.heap.size) 23 (stA ⟨50, 10, 100, false⟩) ∧ Has v10 (v5.heap.size) 23 (stA stp0) ∧ Has v10 (v7.heap.size) 23 (stA stp0) ∧ Has v10 (v9.heap.size) 23 (stA stp0) ∧ Below w.heap.size w v10) := Lib.hid ⟨s0.under hbw s0.lt, s1.under hbw s1.lt, s2.under hbw s2.lt, (by rw [← hv10]; exact (has_row11 (Has.made v9 23 #[.int .i64 0, .int .i64 0, .int .i64 0, .bool false]) (stA stp0))), s3.trans (hbw.mono s3.size)⟩
  clear hbw
  have HWv10 := Lib.hid hv10
  clear s0 s1 s2 s3
  clear hv10 HB9
  go_upto_region 6 with (first | (with_reducible refine wpList_store_rowTo (o := ⟨none, _, _, _, _, _⟩) rfl 23 _ _ rfl rfl (v9.heap.size) (stA stp0) rfl rfl 23 _ (HS0.out).raw11 (by kernel_rfl) (by kernel_rfl) (by kernel_rfl) ?_))
  rw [HWv10.out]
  clear HWv10 HS0
  obtain ⟨s0, s1, s2, s3, s4⟩ := HB10.out
  have HL0 := Lib.hid s0
  have HK := Lib.hid (HRL.out v10)
  clear s0 s1 s2 s3 s4
  go_wp2_with (first | (with_reducible refine wpList_load_row (o := ⟨some 37, _, _, _, _, _⟩) rfl 23 _ rfl (v1.heap.size) rfl 23 (stA ⟨50, 10, 100, false⟩) (0, 0) _ (HL0.out).raw11 Try.underlying23 rfl (by kernel_rfl) ?_))
  refine HK.out.mono ?_
  rintro e v11 ⟨rfl, hb1⟩
  obtain ⟨s0, s1, s2, s3, s4⟩ := HB10.out
  have hbn : Below v10.heap.size v10 v11 := hb1
  have HB11 : Hid (Has v11 (v1.heap.size) 23 (stA ⟨50, 10, 100, false⟩) ∧ Has v11 (v5.heap.size) 23 (stA stp0) ∧ Has v11 (v7.heap.size) 23 (stA stp0) ∧ Has v11 (v9.heap.size) 23 (stA stp0) ∧ Below w.heap.size w v11) := Lib.hid ⟨s0.under hbn s0.lt, s1.under hbn s1.lt, s2.under hbn s2.lt, s3.under hbn s3.lt, s4.trans (hbn.mono s4.size)⟩
  clear s0 s1 s2 s3 s4
  clear HK HB10 HL0 HRL hb1
  clear hbn
  obtain ⟨s0, s1, s2, s3, s4⟩ := HB11.out
  have HK := Lib.hid (HT5.out v11)
  clear s0 s1 s2 s3 s4
  go_wp2_with fail
  refine HK.out.mono ?_
  rintro e v12 ⟨rfl, hb1⟩
  obtain ⟨s0, s1, s2, s3, s4⟩ := HB11.out
  have hbn : Below v11.heap.size v11 v12 := hb1
  have HB12 : Hid (Has v12 (v1.heap.size) 23 (stA ⟨50, 10, 100, false⟩) ∧ Has v12 (v5.heap.size) 23 (stA stp0) ∧ Has v12 (v7.heap.size) 23 (stA stp0) ∧ Has v12 (v9.heap.size) 23 (stA stp0) ∧ Below w.heap.size w v12) := Lib.hid ⟨s0.under hbn s0.lt, s1.under hbn s1.lt, s2.under hbn s2.lt, s3.under hbn s3.lt, s4.trans (hbn.mono s4.size)⟩
  clear s0 s1 s2 s3 s4
  clear HK HB11 HT5 hb1
  clear hbn
  obtain ⟨s0, s1, s2, s3, s4⟩ := HB12.out
  have lt12_12 : v9.heap.size < v12.heap.size := s3.lt
  have le12_12 : w.heap.size ≤ v12.heap.size := s4.size
  have HS0 : Hid (Has (v12.alloc (.cells #[.int .i64 0, .int .i64 0, .int .i64 0, .bool false] 23)) (v12.heap.size) 23 #[.int .i64 0, .int .i64 0, .int .i64 0, .bool false]) := Lib.hid (Has.made v12 23 #[.int .i64 0, .int .i64 0, .int .i64 0, .bool false])
  obtain ⟨v13, hv13⟩ : ∃ v13, (v12.alloc (.cells #[.int .i64 0, .int .i64 0, .int .i64 0, .bool false] 23)).setRow (v12.heap.size) (stA ⟨40, 10, 100, false⟩) = v13 := ⟨_, rfl⟩
  have hbw : Below v12.heap.size v12 v13 := by rw [← hv13]; exact (below_row (g := v12.heap.size) (Below.alloc (Below.refl v12.heap.size v12) (Nat.le_refl _) (.cells #[.int .i64 0, .int .i64 0, .int .i64 0, .bool false] 23)) (by omega) (stA ⟨40, 10, 100, false⟩))
  have HB13 : Hid (Has v13 (v1.heap.size) 23 (stA ⟨50, 10, 100, false⟩) ∧ Has v13 (v5.heap.size) 23 (stA stp0) ∧ Has v13 (v7.heap.size) 23 (stA stp0) ∧ Has v13 (v9.heap.size) 23 (stA stp0) ∧ Has v13 (v12.heap.size) 23 (stA ⟨40, 10, 100, false⟩) ∧ Below w.heap.size w v13) := Lib.hid ⟨s0.under hbw s0.lt, s1.under hbw s1.lt, s2.under hbw s2.lt, s3.under hbw s3.lt, (by rw [← hv13]; exact (has_row11 (Has.made v12 23 #[.int .i64 0, .int .i64 0, .int .i64 0, .bool false]) (stA ⟨40, 10, 100, false⟩))), s4.trans (hbw.mono s4.size)⟩
  clear hbw
  have HWv13 := Lib.hid hv13
  clear s0 s1 s2 s3 s4
  clear hv13 HB12
  go_upto_region 7 with (first | (with_reducible refine wpList_store_rowTo (o := ⟨none, _, _, _, _, _⟩) rfl 23 _ _ rfl rfl (v12.heap.size) (stA ⟨40, 10, 100, false⟩) rfl rfl 23 _ (HS0.out).raw11 (by kernel_rfl) (by kernel_rfl) (by kernel_rfl) ?_))
  rw [HWv13.out]
  clear HWv13 HS0
  obtain ⟨s0, s1, s2, s3, s4, s5⟩ := HB13.out
  have d0 : v13.cell? ⟨v1.heap.size, 0, none⟩ = some (.int .i64 50) := s0.cell 0
  have e0 : v13.cell? ⟨v12.heap.size, 0, none⟩ = some (.int .i64 40) := s4.cell 0
  have e3 : v13.cell? ⟨v12.heap.size, 3, none⟩ = some (.bool false) := s4.cell 3
  have HBF := Lib.hid s5
  clear s0 s1 s2 s3 s4 s5
  go_wp2
  go_ret
  exact ⟨rfl, HBF.out⟩
end Go.Proofs.Ytjfndnpjcicogaa
