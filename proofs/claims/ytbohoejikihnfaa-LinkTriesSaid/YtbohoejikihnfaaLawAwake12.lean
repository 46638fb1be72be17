/-
  linesidelaw12: awake.
-/
import Derived.Test.YtbohoejikihnfaaLkOwn

namespace Go.Proofs.Ytbohoejikihnfaa

open Go.RowKit

open Go.Great

def l12a : L0 := ⟨10, 2, 50, 0, []⟩
def l12b : L0 := ⟨10, 2, 50, 0, [⟨5, 10, 0, [7]⟩]⟩
def l12c : L0 := ⟨10, 2, 50, 0, [⟨5, 20, 1, [7]⟩]⟩
def l12d : L0 := ⟨10, 2, 50, 0, [⟨5, 30, 2, [7]⟩]⟩
set_option maxRecDepth 100000 in
set_option maxHeartbeats 8000000 in
theorem awake12_any (w : World) : Calls Try.prog 8 #[] w fun e w' => e = .returned (.bool true) ∧ Below w.heap.size w w' := by
  have hN := fun W => olk_new 10 2 50 0 W
  simp only [show newL 10 2 50 0 = l12a from by kernel_rfl, show newE12 10 2 50 0 = 0 from by kernel_rfl] at hN
  have hS := fun (P : Nat → Prop) W B d hx => olk_sent (P := P) l12a none 0 5 0 B d [7] W (WsR.nil W) hx (by kernel_rfl) (by decide)
  simp only [show sentL l12a 5 0 [7] = l12b from by kernel_rfl, show sentE l12a 5 0 [7] = 0 from by kernel_rfl] at hS
  have hT1 := fun (P : Nat → Prop) W A c hw => olk_tick (P := P) l12b A c 9 W hw (by kernel_rfl)
  unfold TickPost at hT1
  simp only [show tickL l12b 9 = l12b from by kernel_rfl, show tickA l12b 9 = [] from by kernel_rfl, show tickLost l12b 9 = false from by kernel_rfl, show tickE l12b 9 = 0 from by kernel_rfl] at hT1
  have hT2 := fun (P : Nat → Prop) W A c hw => olk_tick (P := P) l12b A c 10 W hw (by kernel_rfl)
  unfold TickPost at hT2
  simp only [show tickL l12b 10 = l12c from by kernel_rfl, show tickA l12b 10 = [[7]] from by kernel_rfl, show tickLost l12b 10 = false from by kernel_rfl, show tickE l12b 10 = 0 from by kernel_rfl] at hT2
  have hT3 := fun (P : Nat → Prop) W A c hw => olk_tick (P := P) l12c A c 20 W hw (by kernel_rfl)
  unfold TickPost at hT3
  simp only [show tickL l12c 20 = l12d from by kernel_rfl, show tickA l12c 20 = [[7]] from by kernel_rfl, show tickLost l12c 20 = false from by kernel_rfl, show tickE l12c 20 = 0 from by kernel_rfl] at hT3
  have hT4 := fun (P : Nat → Prop) W A c hw => olk_tick (P := P) l12d A c 30 W hw (by kernel_rfl)
  unfold TickPost at hT4
  simp only [show tickL l12d 30 = l12d from by kernel_rfl, show tickA l12d 30 = [] from by kernel_rfl, show tickLost l12d 30 = true from by kernel_rfl, show tickE l12d 30 = 0 from by kernel_rfl] at hT4
  have hT5 := fun (P : Nat → Prop) W A c hw => olk_tick (P := P) l12a A c 30 W hw (by kernel_rfl)
  unfold TickPost at hT5
  simp only [show tickL l12a 30 = l12a from by kernel_rfl, show tickA l12a 30 = [] from by kernel_rfl, show tickLost l12a 30 = false from by kernel_rfl, show tickE l12a 30 = 0 from by kernel_rfl] at hT5
  have hT6 := fun (P : Nat → Prop) W A c hw => olk_tick (P := P) l12a A c 51 W hw (by kernel_rfl)
  unfold TickPost at hT6
  simp only [show tickL l12a 51 = l12a from by kernel_rfl, show tickA l12a 51 = [] from by kernel_rfl, show tickLost l12a 51 = true from by kernel_rfl, show tickE l12a 51 = 0 from by kernel_rfl] at hT6
  have hK := fun (P : Nat → Prop) W A c hw => olk_acked (P := P) l12b A c 5 W hw (by kernel_rfl)
  simp only [show ackedL l12b 5 = l12a from by kernel_rfl, show ackedE l12b 5 = 0 from by kernel_rfl] at hK
  have HN := Lib.hid hN; have HS := Lib.hid hS; have HAC := Lib.hid hK; have HT1 := Lib.hid hT1; have HT2 := Lib.hid hT2; have HT3 := Lib.hid hT3; have HT4 := Lib.hid hT4; have HT5 := Lib.hid hT5; have HT6 := Lib.hid hT6
  clear hN hS hK hT1 hT2 hT3 hT4 hT5 hT6
  go_enter Try.func8, Try.ntmps8
  have HB0 : Hid (Below w.heap.size w w) := Lib.hid (Below.refl _ _)
  obtain s0 := HB0.out
  have HK := Lib.hid (HN.out w)
  clear s0
  go_wp2_with fail
  refine HK.out.mono ?_
  rintro e v1 ⟨rfl, hb1⟩
  obtain s0 := HB0.out
  have hbn : Below w.heap.size w v1 := hb1
  have HB1 : Hid (Below w.heap.size w v1) := Lib.hid (s0.trans (hbn.mono s0.size))
  have hz1_ := hbn.size
  clear s0
  clear HK HB0 HN hb1
  clear hbn
  obtain s0 := HB1.out
  have le1_1 : w.heap.size ≤ v1.heap.size := s0.size
  have HS0 : Hid (Has (v1.alloc (.cells #[.int .i64 0, .int .i64 0, .int .i64 0, .int .i64 0, .slice none 0 0] 24)) (v1.heap.size) 24 #[.int .i64 0, .int .i64 0, .int .i64 0, .int .i64 0, .slice none 0 0]) := Lib.hid (Has.made v1 24 #[.int .i64 0, .int .i64 0, .int .i64 0, .int .i64 0, .slice none 0 0])
  obtain ⟨v2, hv2⟩ : ∃ v2, (v1.alloc (.cells #[.int .i64 0, .int .i64 0, .int .i64 0, .int .i64 0, .slice none 0 0] 24)).setRow (v1.heap.size) (lkC l12a none 0) = v2 := ⟨_, rfl⟩
  have hy2_ : v1.heap.size + 1 ≤ v2.heap.size := by rw [← hv2]; simp
  have hbw : Below v1.heap.size v1 v2 := by rw [← hv2]; exact (below_row (g := v1.heap.size) (Below.alloc (Below.refl v1.heap.size v1) (Nat.le_refl _) (.cells #[.int .i64 0, .int .i64 0, .int .i64 0, .int .i64 0, .slice none 0 0] 24)) (by omega) (lkC l12a none 0))
  have HB2 : Hid (Has v2 (v1.heap.size) 24 (lkC l12a none 0) ∧ Below w.heap.size w v2) := Lib.hid ⟨(by rw [← hv2]; exact (has_row11 (Has.made v1 24 #[.int .i64 0, .int .i64 0, .int .i64 0, .int .i64 0, .slice none 0 0]) (lkC l12a none 0))), s0.trans (hbw.mono s0.size)⟩
  clear hbw
  have HWv2 := Lib.hid hv2
  clear s0
  clear hv2 HB1
  go_upto_region 2 with (first | (with_reducible refine wpList_store_rowTo (o := ⟨none, _, _, _, _, _⟩) rfl 24 _ _ rfl rfl (v1.heap.size) (lkC l12a none 0) rfl rfl 24 _ (HS0.out).raw11 (by kernel_rfl) (by kernel_rfl) (by kernel_rfl) ?_))
  rw [HWv2.out]
  clear HWv2 HS0
  have hbod : BodyR (fun b => b = v2.heap.size) (v2.alloc (.cells #[.int .u8 7] 5)) (.slice (some ⟨v2.heap.size, 0, none⟩) 1 1) [7] := ⟨some ⟨v2.heap.size, 0, none⟩, 1, rfl, ⟨rfl, (fun h => by cases h), fun ad ha j u hu => by cases ha; rw [WideShapes.add_plain, (Has.made _ _ _).cell, Nat.zero_add]; simpa [u8s] using hu⟩, (fun x hx => by simp at hx; omega), fun ad ha _ => by cases ha; rfl⟩
  obtain ⟨s0, s1⟩ := HB2.out
  have HL0 := Lib.hid s0
  have HK := Lib.hid (HS.out (fun b => b = v2.heap.size) (v2.alloc (.cells #[.int .u8 7] 5)) (some ⟨v2.heap.size, 0, none⟩) 1 hbod)
  clear s0 s1
  go_wp2_with (first | (with_reducible refine wpList_load_row (o := ⟨some 34, _, _, _, _, _⟩) rfl 24 _ rfl (v1.heap.size) rfl 24 (lkC l12a none 0) (0, 0) _ (HL0.out).raw11 Try.underlying24 rfl (by kernel_rfl) ?_))
  refine HK.out.mono ?_
  rintro e v3 ⟨A2, c2, rfl, hw2, hb1⟩
  obtain ⟨s0, s1⟩ := HB2.out
  have hbn : Below v2.heap.size v2 v3 := ((Below.refl v2.heap.size v2).alloc (Nat.le_refl _) (.cells #[.int .u8 7] 5)).trans (hb1.mono (by simp))
  have HB3 : Hid (Has v3 (v1.heap.size) 24 (lkC l12a none 0) ∧ Below w.heap.size w v3) := Lib.hid ⟨s0.under hbn s0.lt, s1.trans (hbn.mono s1.size)⟩
  have hz3_ := hbn.size
  clear s0 s1
  clear HK HB2 HL0 HS hb1 hbod
  clear hbn
  obtain ⟨vb, hvb⟩ : ∃ vb, v2.alloc (.cells #[.int .u8 7] 5) = vb := ⟨_, rfl⟩
  have hvbs : v2.heap.size + 1 ≤ vb.heap.size := by rw [← hvb]; simp
  rw [hvb] at hw2
  clear hvb
  obtain ⟨s0, s1⟩ := HB3.out
  have HB4 : Hid (Has v3 (v1.heap.size) 24 (lkC l12a none 0) ∧ WsR (Nw (fun b => b = v2.heap.size) vb v3) v3 A2 1 c2 l12b.ws ∧ Below w.heap.size w v3) := Lib.hid ⟨s0, hw2, s1⟩
  clear s0 s1
  clear HB3
  clear hw2
  obtain ⟨s0, s1, s2⟩ := HB4.out
  have HS0 : Hid (Has v3 (v1.heap.size) 24 (lkC l12a none 0)) := Lib.hid s0
  obtain ⟨v4, hv4⟩ : ∃ v4, v3.setRow (v1.heap.size) (lkC l12b A2 c2) = v4 := ⟨_, rfl⟩
  have hy4_ : v3.heap.size + 0 ≤ v4.heap.size := by rw [← hv4]; simp
  have HB5 : Hid (Has v4 (v1.heap.size) 24 (lkC l12b A2 c2) ∧ WsR (Nw (fun b => b = v2.heap.size) vb v3) v4 A2 1 c2 l12b.ws ∧ Below w.heap.size w v4) := Lib.hid (by rw [← hv4]; exact ⟨(has_row11 s0 (lkC l12b A2 c2)), ((s1).row (by first | (simp only [Nw]; omega) | exact fun h_ => h_ rfl | omega) (lkC l12b A2 c2)), (below_row (g := v1.heap.size) s2 (by omega) (lkC l12b A2 c2))⟩)
  have HWv4 := Lib.hid hv4
  clear s0 s1 s2
  clear hv4 HB4
  go_upto_region 3 with (first | (with_reducible refine wpList_store_rowTo (o := ⟨none, _, _, _, _, _⟩) rfl 24 _ _ rfl rfl (v1.heap.size) (lkC l12b A2 c2) rfl rfl 24 _ (HS0.out).raw11 (by kernel_rfl) (by kernel_rfl) (by kernel_rfl) ?_))
  rw [HWv4.out]
  clear HWv4 HS0
  obtain ⟨s0, s1, s2⟩ := HB5.out
  have HL0 := Lib.hid s0
  have HK := Lib.hid (HT1.out (Nw (fun b => b = v2.heap.size) vb v3) v4 A2 c2 s1)
  clear s0 s1 s2
  go_wp2_with (first | (with_reducible refine wpList_load_row (o := ⟨some 40, _, _, _, _, _⟩) rfl 24 _ rfl (v1.heap.size) rfl 24 (lkC l12b A2 c2) (0, 0) _ (HL0.out).raw11 Try.underlying24 rfl (by kernel_rfl) ?_))
  refine HK.out.mono ?_
  rintro e v5 ⟨A3, c3, B3, d3, rfl, hw3, hl3, hb1⟩
  obtain ⟨s0, s1, s2⟩ := HB5.out
  have hbn : Below v4.heap.size v4 v5 := hb1
  have HB6 : Hid (Has v5 (v1.heap.size) 24 (lkC l12b A2 c2) ∧ WsR (Nw (fun b => b = v2.heap.size) vb v3) v5 A2 1 c2 l12b.ws ∧ Below w.heap.size w v5) := Lib.hid ⟨s0.under hbn s0.lt, s1.under hbn, s2.trans (hbn.mono s2.size)⟩
  have hz5_ := hbn.size
  clear s0 s1 s2
  clear HK HB5 HL0 HT1 hb1
  clear hbn
  clear hw3 hl3
  obtain ⟨s0, s1, s2⟩ := HB6.out
  have lt5_6 : v1.heap.size < v5.heap.size := s0.lt
  have le5_6 : w.heap.size ≤ v5.heap.size := s2.size
  have HS0 : Hid (Has (v5.alloc (.cells #[.int .i64 0, .int .i64 0, .int .i64 0, .int .i64 0, .slice none 0 0] 24)) (v5.heap.size) 24 #[.int .i64 0, .int .i64 0, .int .i64 0, .int .i64 0, .slice none 0 0]) := Lib.hid (Has.made v5 24 #[.int .i64 0, .int .i64 0, .int .i64 0, .int .i64 0, .slice none 0 0])
  obtain ⟨v6, hv6⟩ : ∃ v6, (v5.alloc (.cells #[.int .i64 0, .int .i64 0, .int .i64 0, .int .i64 0, .slice none 0 0] 24)).setRow (v5.heap.size) (lkC l12b A3 c3) = v6 := ⟨_, rfl⟩
  have hy6_ : v5.heap.size + 1 ≤ v6.heap.size := by rw [← hv6]; simp
  have hbw : Below v5.heap.size v5 v6 := by rw [← hv6]; exact (below_row (g := v5.heap.size) (Below.alloc (Below.refl v5.heap.size v5) (Nat.le_refl _) (.cells #[.int .i64 0, .int .i64 0, .int .i64 0, .int .i64 0, .slice none 0 0] 24)) (by omega) (lkC l12b A3 c3))
  have HB7 : Hid (Has v6 (v1.heap.size) 24 (lkC l12b A2 c2) ∧ WsR (Nw (fun b => b = v2.heap.size) vb v3) v6 A2 1 c2 l12b.ws ∧ Has v6 (v5.heap.size) 24 (lkC l12b A3 c3) ∧ Below w.heap.size w v6) := Lib.hid ⟨s0.under hbw s0.lt, s1.under hbw, (by rw [← hv6]; exact (has_row11 (Has.made v5 24 #[.int .i64 0, .int .i64 0, .int .i64 0, .int .i64 0, .slice none 0 0]) (lkC l12b A3 c3))), s2.trans (hbw.mono s2.size)⟩
  clear hbw
  have HWv6 := Lib.hid hv6
  clear s0 s1 s2
  clear hv6 HB6
  go_upto_region 4 with (first | (with_reducible refine wpList_store_rowTo (o := ⟨none, _, _, _, _, _⟩) rfl 24 _ _ rfl rfl (v5.heap.size) (lkC l12b A3 c3) rfl rfl 24 _ (HS0.out).raw11 (by kernel_rfl) (by kernel_rfl) (by kernel_rfl) ?_))
  rw [HWv6.out]
  clear HWv6 HS0
  obtain ⟨s0, s1, s2, s3⟩ := HB7.out
  have HL0 := Lib.hid s0
  have HK := Lib.hid (HT2.out (Nw (fun b => b = v2.heap.size) vb v3) v6 A2 c2 s1)
  clear s0 s1 s2 s3
  go_wp2_with (first | (with_reducible refine wpList_load_row (o := ⟨some 47, _, _, _, _, _⟩) rfl 24 _ rfl (v1.heap.size) rfl 24 (lkC l12b A2 c2) (0, 0) _ (HL0.out).raw11 Try.underlying24 rfl (by kernel_rfl) ?_))
  refine HK.out.mono ?_
  rintro e v7 ⟨A4, c4, B4, d4, rfl, hw4, hl4, hb1⟩
  obtain ⟨s0, s1, s2, s3⟩ := HB7.out
  have hbn : Below v6.heap.size v6 v7 := hb1
  have HB8 : Hid (Has v7 (v1.heap.size) 24 (lkC l12b A2 c2) ∧ WsR (Nw (fun b => b = v2.heap.size) vb v3) v7 A2 1 c2 l12b.ws ∧ Has v7 (v5.heap.size) 24 (lkC l12b A3 c3) ∧ Below w.heap.size w v7) := Lib.hid ⟨s0.under hbn s0.lt, s1.under hbn, s2.under hbn s2.lt, s3.trans (hbn.mono s3.size)⟩
  have hz7_ := hbn.size
  clear s0 s1 s2 s3
  clear HK HB7 HL0 HT2 hb1
  clear hbn
  obtain ⟨s0, s1, s2, s3⟩ := HB8.out
  have HB9 : Hid (Has v7 (v1.heap.size) 24 (lkC l12b A2 c2) ∧ WsR (Nw (fun b => b = v2.heap.size) vb v3) v7 A2 1 c2 l12b.ws ∧ Has v7 (v5.heap.size) 24 (lkC l12b A3 c3) ∧ WsR (Nw (Nw (fun b => b = v2.heap.size) vb v3) v6 v7) v7 A4 1 c4 l12c.ws ∧ Below w.heap.size w v7) := Lib.hid ⟨s0, s1, s2, hw4, s3⟩
  clear s0 s1 s2 s3
  clear HB8
  clear hw4 hl4
  obtain ⟨s0, s1, s2, s3, s4⟩ := HB9.out
  have lt7_9 : v5.heap.size < v7.heap.size := s2.lt
  have le7_9 : w.heap.size ≤ v7.heap.size := s4.size
  have HS0 : Hid (Has (v7.alloc (.cells #[.int .i64 0, .int .i64 0, .int .i64 0, .int .i64 0, .slice none 0 0] 24)) (v7.heap.size) 24 #[.int .i64 0, .int .i64 0, .int .i64 0, .int .i64 0, .slice none 0 0]) := Lib.hid (Has.made v7 24 #[.int .i64 0, .int .i64 0, .int .i64 0, .int .i64 0, .slice none 0 0])
  obtain ⟨v8, hv8⟩ : ∃ v8, (v7.alloc (.cells #[.int .i64 0, .int .i64 0, .int .i64 0, .int .i64 0, .slice none 0 0] 24)).setRow (v7.heap.size) (lkC l12c A4 c4) = v8 := ⟨_, rfl⟩
  have hy8_ : v7.heap.size + 1 ≤ v8.heap.size := by rw [← hv8]; simp
  have hbw : Below v7.heap.size v7 v8 := by rw [← hv8]; exact (below_row (g := v7.heap.size) (Below.alloc (Below.refl v7.heap.size v7) (Nat.le_refl _) (.cells #[.int .i64 0, .int .i64 0, .int .i64 0, .int .i64 0, .slice none 0 0] 24)) (by omega) (lkC l12c A4 c4))
  have HB10 : Hid (Has v8 (v1.heap.size) 24 (lkC l12b A2 c2) ∧ WsR (Nw (fun b => b = v2.heap.size) vb v3) v8 A2 1 c2 l12b.ws ∧ Has v8 (v5.heap.size) 24 (lkC l12b A3 c3) ∧ WsR (Nw (Nw (fun b => b = v2.heap.size) vb v3) v6 v7) v8 A4 1 c4 l12c.ws ∧ Has v8 (v7.heap.size) 24 (lkC l12c A4 c4) ∧ Below w.heap.size w v8) := Lib.hid ⟨s0.under hbw s0.lt, s1.under hbw, s2.under hbw s2.lt, s3.under hbw, (by rw [← hv8]; exact (has_row11 (Has.made v7 24 #[.int .i64 0, .int .i64 0, .int .i64 0, .int .i64 0, .slice none 0 0]) (lkC l12c A4 c4))), s4.trans (hbw.mono s4.size)⟩
  clear hbw
  have HWv8 := Lib.hid hv8
  clear s0 s1 s2 s3 s4
  clear hv8 HB9
  go_upto_region 5 with (first | (with_reducible refine wpList_store_rowTo (o := ⟨none, _, _, _, _, _⟩) rfl 24 _ _ rfl rfl (v7.heap.size) (lkC l12c A4 c4) rfl rfl 24 _ (HS0.out).raw11 (by kernel_rfl) (by kernel_rfl) (by kernel_rfl) ?_))
  rw [HWv8.out]
  clear HWv8 HS0
  obtain ⟨s0, s1, s2, s3, s4, s5⟩ := HB10.out
  have HL0 := Lib.hid s4
  have HK := Lib.hid (HT3.out (Nw (Nw (fun b => b = v2.heap.size) vb v3) v6 v7) v8 A4 c4 s3)
  clear s0 s1 s2 s3 s4 s5
  go_wp2_with (first | (with_reducible refine wpList_load_row (o := ⟨some 54, _, _, _, _, _⟩) rfl 24 _ rfl (v7.heap.size) rfl 24 (lkC l12c A4 c4) (0, 0) _ (HL0.out).raw11 Try.underlying24 rfl (by kernel_rfl) ?_))
  refine HK.out.mono ?_
  rintro e v9 ⟨A5, c5, B5, d5, rfl, hw5, hl5, hb1⟩
  obtain ⟨s0, s1, s2, s3, s4, s5⟩ := HB10.out
  have hbn : Below v8.heap.size v8 v9 := hb1
  have HB11 : Hid (Has v9 (v1.heap.size) 24 (lkC l12b A2 c2) ∧ WsR (Nw (fun b => b = v2.heap.size) vb v3) v9 A2 1 c2 l12b.ws ∧ Has v9 (v5.heap.size) 24 (lkC l12b A3 c3) ∧ WsR (Nw (Nw (fun b => b = v2.heap.size) vb v3) v6 v7) v9 A4 1 c4 l12c.ws ∧ Has v9 (v7.heap.size) 24 (lkC l12c A4 c4) ∧ Below w.heap.size w v9) := Lib.hid ⟨s0.under hbn s0.lt, s1.under hbn, s2.under hbn s2.lt, s3.under hbn, s4.under hbn s4.lt, s5.trans (hbn.mono s5.size)⟩
  have hz9_ := hbn.size
  clear s0 s1 s2 s3 s4 s5
  clear HK HB10 HL0 HT3 hb1
  clear hbn
  obtain ⟨s0, s1, s2, s3, s4, s5⟩ := HB11.out
  have HB12 : Hid (Has v9 (v1.heap.size) 24 (lkC l12b A2 c2) ∧ WsR (Nw (fun b => b = v2.heap.size) vb v3) v9 A2 1 c2 l12b.ws ∧ Has v9 (v5.heap.size) 24 (lkC l12b A3 c3) ∧ WsR (Nw (Nw (fun b => b = v2.heap.size) vb v3) v6 v7) v9 A4 1 c4 l12c.ws ∧ Has v9 (v7.heap.size) 24 (lkC l12c A4 c4) ∧ WsR (Nw (Nw (Nw (fun b => b = v2.heap.size) vb v3) v6 v7) v8 v9) v9 A5 1 c5 l12d.ws ∧ Below w.heap.size w v9) := Lib.hid ⟨s0, s1, s2, s3, s4, hw5, s5⟩
  clear s0 s1 s2 s3 s4 s5
  clear HB11
  clear hw5 hl5
  obtain ⟨s0, s1, s2, s3, s4, s5, s6⟩ := HB12.out
  have HB13 : Hid (Has v9 (v1.heap.size) 24 (lkC l12b A2 c2) ∧ WsR (Nw (fun b => b = v2.heap.size) vb v3) v9 A2 1 c2 l12b.ws ∧ Has v9 (v5.heap.size) 24 (lkC l12b A3 c3) ∧ Has v9 (v7.heap.size) 24 (lkC l12c A4 c4) ∧ WsR (Nw (Nw (Nw (fun b => b = v2.heap.size) vb v3) v6 v7) v8 v9) v9 A5 1 c5 l12d.ws ∧ Below w.heap.size w v9) := Lib.hid ⟨s0, s1, s2, s4, s5, s6⟩
  clear s0 s1 s2 s3 s4 s5 s6
  clear HB12
  obtain ⟨s0, s1, s2, s3, s4, s5⟩ := HB13.out
  have HS0 : Hid (Has v9 (v7.heap.size) 24 (lkC l12c A4 c4)) := Lib.hid s3
  obtain ⟨v10, hv10⟩ : ∃ v10, v9.setRow (v7.heap.size) (lkC l12d A5 c5) = v10 := ⟨_, rfl⟩
  have hy10_ : v9.heap.size + 0 ≤ v10.heap.size := by rw [← hv10]; simp
  have HB14 : Hid (Has v10 (v1.heap.size) 24 (lkC l12b A2 c2) ∧ WsR (Nw (fun b => b = v2.heap.size) vb v3) v10 A2 1 c2 l12b.ws ∧ Has v10 (v5.heap.size) 24 (lkC l12b A3 c3) ∧ Has v10 (v7.heap.size) 24 (lkC l12d A5 c5) ∧ WsR (Nw (Nw (Nw (fun b => b = v2.heap.size) vb v3) v6 v7) v8 v9) v10 A5 1 c5 l12d.ws ∧ Below w.heap.size w v10) := Lib.hid (by rw [← hv10]; exact ⟨(has_rowo11 s0 (by omega) (lkC l12d A5 c5)), ((s1).row (by first | (simp only [Nw]; omega) | exact fun h_ => h_ rfl | omega) (lkC l12d A5 c5)), (has_rowo11 s2 (by omega) (lkC l12d A5 c5)), (has_row11 s3 (lkC l12d A5 c5)), ((s4).row (by first | (simp only [Nw]; omega) | exact fun h_ => h_ rfl | omega) (lkC l12d A5 c5)), (below_row (g := v7.heap.size) s5 (by omega) (lkC l12d A5 c5))⟩)
  have HWv10 := Lib.hid hv10
  clear s0 s1 s2 s3 s4 s5
  clear hv10 HB13
  go_upto_region 6 with (first | (with_reducible refine wpList_store_rowTo (o := ⟨none, _, _, _, _, _⟩) rfl 24 _ _ rfl rfl (v7.heap.size) (lkC l12d A5 c5) rfl rfl 24 _ (HS0.out).raw11 (by kernel_rfl) (by kernel_rfl) (by kernel_rfl) ?_))
  rw [HWv10.out]
  clear HWv10 HS0
  obtain ⟨s0, s1, s2, s3, s4, s5⟩ := HB14.out
  have HL0 := Lib.hid s3
  have HK := Lib.hid (HT4.out (Nw (Nw (Nw (fun b => b = v2.heap.size) vb v3) v6 v7) v8 v9) v10 A5 c5 s4)
  clear s0 s1 s2 s3 s4 s5
  go_wp2_with (first | (with_reducible refine wpList_load_row (o := ⟨some 61, _, _, _, _, _⟩) rfl 24 _ rfl (v7.heap.size) rfl 24 (lkC l12d A5 c5) (0, 0) _ (HL0.out).raw11 Try.underlying24 rfl (by kernel_rfl) ?_))
  refine HK.out.mono ?_
  rintro e v11 ⟨A6, c6, B6, d6, rfl, hw6, hl6, hb1⟩
  obtain ⟨s0, s1, s2, s3, s4, s5⟩ := HB14.out
  have hbn : Below v10.heap.size v10 v11 := hb1
  have HB15 : Hid (Has v11 (v1.heap.size) 24 (lkC l12b A2 c2) ∧ WsR (Nw (fun b => b = v2.heap.size) vb v3) v11 A2 1 c2 l12b.ws ∧ Has v11 (v5.heap.size) 24 (lkC l12b A3 c3) ∧ Has v11 (v7.heap.size) 24 (lkC l12d A5 c5) ∧ WsR (Nw (Nw (Nw (fun b => b = v2.heap.size) vb v3) v6 v7) v8 v9) v11 A5 1 c5 l12d.ws ∧ Below w.heap.size w v11) := Lib.hid ⟨s0.under hbn s0.lt, s1.under hbn, s2.under hbn s2.lt, s3.under hbn s3.lt, s4.under hbn, s5.trans (hbn.mono s5.size)⟩
  have hz11_ := hbn.size
  clear s0 s1 s2 s3 s4 s5
  clear HK HB14 HL0 HT4 hb1
  clear hbn
  clear hw6 hl6
  obtain ⟨s0, s1, s2, s3, s4, s5⟩ := HB15.out
  have HB16 : Hid (Has v11 (v1.heap.size) 24 (lkC l12b A2 c2) ∧ WsR (Nw (fun b => b = v2.heap.size) vb v3) v11 A2 1 c2 l12b.ws ∧ Has v11 (v5.heap.size) 24 (lkC l12b A3 c3) ∧ Has v11 (v7.heap.size) 24 (lkC l12d A5 c5) ∧ Below w.heap.size w v11) := Lib.hid ⟨s0, s1, s2, s3, s5⟩
  clear s0 s1 s2 s3 s4 s5
  clear HB15
  obtain ⟨s0, s1, s2, s3, s4⟩ := HB16.out
  have lt11_16 : v7.heap.size < v11.heap.size := s3.lt
  have le11_16 : w.heap.size ≤ v11.heap.size := s4.size
  have HS0 : Hid (Has (v11.alloc (.cells #[.int .i64 0, .int .i64 0, .int .i64 0, .int .i64 0, .slice none 0 0] 24)) (v11.heap.size) 24 #[.int .i64 0, .int .i64 0, .int .i64 0, .int .i64 0, .slice none 0 0]) := Lib.hid (Has.made v11 24 #[.int .i64 0, .int .i64 0, .int .i64 0, .int .i64 0, .slice none 0 0])
  obtain ⟨v12, hv12⟩ : ∃ v12, (v11.alloc (.cells #[.int .i64 0, .int .i64 0, .int .i64 0, .int .i64 0, .slice none 0 0] 24)).setRow (v11.heap.size) (lkC l12d A6 c6) = v12 := ⟨_, rfl⟩
  have hy12_ : v11.heap.size + 1 ≤ v12.heap.size := by rw [← hv12]; simp
  have hbw : Below v11.heap.size v11 v12 := by rw [← hv12]; exact (below_row (g := v11.heap.size) (Below.alloc (Below.refl v11.heap.size v11) (Nat.le_refl _) (.cells #[.int .i64 0, .int .i64 0, .int .i64 0, .int .i64 0, .slice none 0 0] 24)) (by omega) (lkC l12d A6 c6))
  have HB17 : Hid (Has v12 (v1.heap.size) 24 (lkC l12b A2 c2) ∧ WsR (Nw (fun b => b = v2.heap.size) vb v3) v12 A2 1 c2 l12b.ws ∧ Has v12 (v5.heap.size) 24 (lkC l12b A3 c3) ∧ Has v12 (v7.heap.size) 24 (lkC l12d A5 c5) ∧ Has v12 (v11.heap.size) 24 (lkC l12d A6 c6) ∧ Below w.heap.size w v12) := Lib.hid ⟨s0.under hbw s0.lt, s1.under hbw, s2.under hbw s2.lt, s3.under hbw s3.lt, (by rw [← hv12]; exact (has_row11 (Has.made v11 24 #[.int .i64 0, .int .i64 0, .int .i64 0, .int .i64 0, .slice none 0 0]) (lkC l12d A6 c6))), s4.trans (hbw.mono s4.size)⟩
  clear hbw
  have HWv12 := Lib.hid hv12
  clear s0 s1 s2 s3 s4
  clear hv12 HB16
  go_upto_region 7 with (first | (with_reducible refine wpList_store_rowTo (o := ⟨none, _, _, _, _, _⟩) rfl 24 _ _ rfl rfl (v11.heap.size) (lkC l12d A6 c6) rfl rfl 24 _ (HS0.out).raw11 (by kernel_rfl) (by kernel_rfl) (by kernel_rfl) ?_))
  rw [HWv12.out]
  clear HWv12 HS0
  obtain ⟨s0, s1, s2, s3, s4, s5⟩ := HB17.out
  have HL0 := Lib.hid s0
  have HK := Lib.hid (HAC.out (Nw (fun b => b = v2.heap.size) vb v3) v12 A2 c2 s1)
  clear s0 s1 s2 s3 s4 s5
  go_wp2_with (first | (with_reducible refine wpList_load_row (o := ⟨some 68, _, _, _, _, _⟩) rfl 24 _ rfl (v1.heap.size) rfl 24 (lkC l12b A2 c2) (0, 0) _ (HL0.out).raw11 Try.underlying24 rfl (by kernel_rfl) ?_))
  refine HK.out.mono ?_
  rintro e v13 ⟨A7, c7, rfl, hw7, hb1⟩
  obtain ⟨s0, s1, s2, s3, s4, s5⟩ := HB17.out
  have hbn : Below v12.heap.size v12 v13 := hb1
  have HB18 : Hid (Has v13 (v1.heap.size) 24 (lkC l12b A2 c2) ∧ WsR (Nw (fun b => b = v2.heap.size) vb v3) v13 A2 1 c2 l12b.ws ∧ Has v13 (v5.heap.size) 24 (lkC l12b A3 c3) ∧ Has v13 (v7.heap.size) 24 (lkC l12d A5 c5) ∧ Has v13 (v11.heap.size) 24 (lkC l12d A6 c6) ∧ Below w.heap.size w v13) := Lib.hid ⟨s0.under hbn s0.lt, s1.under hbn, s2.under hbn s2.lt, s3.under hbn s3.lt, s4.under hbn s4.lt, s5.trans (hbn.mono s5.size)⟩
  have hz13_ := hbn.size
  clear s0 s1 s2 s3 s4 s5
  clear HK HB17 HL0 HAC hb1
  clear hbn
  obtain ⟨s0, s1, s2, s3, s4, s5⟩ := HB18.out
  have HB19 : Hid (Has v13 (v1.heap.size) 24 (lkC l12b A2 c2) ∧ WsR (Nw (fun b => b = v2.heap.size) vb v3) v13 A2 1 c2 l12b.ws ∧ Has v13 (v5.heap.size) 24 (lkC l12b A3 c3) ∧ Has v13 (v7.heap.size) 24 (lkC l12d A5 c5) ∧ Has v13 (v11.heap.size) 24 (lkC l12d A6 c6) ∧ WsR (Nw (Nw (fun b => b = v2.heap.size) vb v3) v12 v13) v13 A7 0 c7 l12a.ws ∧ Below w.heap.size w v13) := Lib.hid ⟨s0, s1, s2, s3, s4, hw7, s5⟩
  clear s0 s1 s2 s3 s4 s5
  clear HB18
  clear hw7
  obtain ⟨s0, s1, s2, s3, s4, s5, s6⟩ := HB19.out
  have HB20 : Hid (Has v13 (v1.heap.size) 24 (lkC l12b A2 c2) ∧ Has v13 (v5.heap.size) 24 (lkC l12b A3 c3) ∧ Has v13 (v7.heap.size) 24 (lkC l12d A5 c5) ∧ Has v13 (v11.heap.size) 24 (lkC l12d A6 c6) ∧ WsR (Nw (Nw (fun b => b = v2.heap.size) vb v3) v12 v13) v13 A7 0 c7 l12a.ws ∧ Below w.heap.size w v13) := Lib.hid ⟨s0, s2, s3, s4, s5, s6⟩
  clear s0 s1 s2 s3 s4 s5 s6
  clear HB19
  obtain ⟨s0, s1, s2, s3, s4, s5⟩ := HB20.out
  have lt13_20 : v11.heap.size < v13.heap.size := s3.lt
  have le13_20 : w.heap.size ≤ v13.heap.size := s5.size
  have HS0 : Hid (Has (v13.alloc (.cells #[.int .i64 0, .int .i64 0, .int .i64 0, .int .i64 0, .slice none 0 0] 24)) (v13.heap.size) 24 #[.int .i64 0, .int .i64 0, .int .i64 0, .int .i64 0, .slice none 0 0]) := Lib.hid (Has.made v13 24 #[.int .i64 0, .int .i64 0, .int .i64 0, .int .i64 0, .slice none 0 0])
  obtain ⟨v14, hv14⟩ : ∃ v14, (v13.alloc (.cells #[.int .i64 0, .int .i64 0, .int .i64 0, .int .i64 0, .slice none 0 0] 24)).setRow (v13.heap.size) (lkC l12a A7 c7) = v14 := ⟨_, rfl⟩
  have hy14_ : v13.heap.size + 1 ≤ v14.heap.size := by rw [← hv14]; simp
  have hbw : Below v13.heap.size v13 v14 := by rw [← hv14]; exact (below_row (g := v13.heap.size) (Below.alloc (Below.refl v13.heap.size v13) (Nat.le_refl _) (.cells #[.int .i64 0, .int .i64 0, .int .i64 0, .int .i64 0, .slice none 0 0] 24)) (by omega) (lkC l12a A7 c7))
  have HB21 : Hid (Has v14 (v1.heap.size) 24 (lkC l12b A2 c2) ∧ Has v14 (v5.heap.size) 24 (lkC l12b A3 c3) ∧ Has v14 (v7.heap.size) 24 (lkC l12d A5 c5) ∧ Has v14 (v11.heap.size) 24 (lkC l12d A6 c6) ∧ WsR (Nw (Nw (fun b => b = v2.heap.size) vb v3) v12 v13) v14 A7 0 c7 l12a.ws ∧ Has v14 (v13.heap.size) 24 (lkC l12a A7 c7) ∧ Below w.heap.size w v14) := Lib.hid ⟨s0.under hbw s0.lt, s1.under hbw s1.lt, s2.under hbw s2.lt, s3.under hbw s3.lt, s4.under hbw, (by rw [← hv14]; exact (has_row11 (Has.made v13 24 #[.int .i64 0, .int .i64 0, .int .i64 0, .int .i64 0, .slice none 0 0]) (lkC l12a A7 c7))), s5.trans (hbw.mono s5.size)⟩
  clear hbw
  have HWv14 := Lib.hid hv14
  clear s0 s1 s2 s3 s4 s5
  clear hv14 HB20
  go_upto_region 8 with (first | (with_reducible refine wpList_store_rowTo (o := ⟨none, _, _, _, _, _⟩) rfl 24 _ _ rfl rfl (v13.heap.size) (lkC l12a A7 c7) rfl rfl 24 _ (HS0.out).raw11 (by kernel_rfl) (by kernel_rfl) (by kernel_rfl) ?_))
  rw [HWv14.out]
  clear HWv14 HS0
  obtain ⟨s0, s1, s2, s3, s4, s5, s6⟩ := HB21.out
  have HL0 := Lib.hid s5
  have HK := Lib.hid (HT5.out (Nw (Nw (fun b => b = v2.heap.size) vb v3) v12 v13) v14 A7 c7 s4)
  clear s0 s1 s2 s3 s4 s5 s6
  go_wp2_with (first | (with_reducible refine wpList_load_row (o := ⟨some 73, _, _, _, _, _⟩) rfl 24 _ rfl (v13.heap.size) rfl 24 (lkC l12a A7 c7) (0, 0) _ (HL0.out).raw11 Try.underlying24 rfl (by kernel_rfl) ?_))
  refine HK.out.mono ?_
  rintro e v15 ⟨A8, c8, B8, d8, rfl, hw8, hl8, hb1⟩
  obtain ⟨s0, s1, s2, s3, s4, s5, s6⟩ := HB21.out
  have hbn : Below v14.heap.size v14 v15 := hb1
  have HB22 : Hid (Has v15 (v1.heap.size) 24 (lkC l12b A2 c2) ∧ Has v15 (v5.heap.size) 24 (lkC l12b A3 c3) ∧ Has v15 (v7.heap.size) 24 (lkC l12d A5 c5) ∧ Has v15 (v11.heap.size) 24 (lkC l12d A6 c6) ∧ WsR (Nw (Nw (fun b => b = v2.heap.size) vb v3) v12 v13) v15 A7 0 c7 l12a.ws ∧ Has v15 (v13.heap.size) 24 (lkC l12a A7 c7) ∧ Below w.heap.size w v15) := Lib.hid ⟨s0.under hbn s0.lt, s1.under hbn s1.lt, s2.under hbn s2.lt, s3.under hbn s3.lt, s4.under hbn, s5.under hbn s5.lt, s6.trans (hbn.mono s6.size)⟩
  have hz15_ := hbn.size
  clear s0 s1 s2 s3 s4 s5 s6
  clear HK HB21 HL0 HT5 hb1
  clear hbn
  clear hw8 hl8
  obtain ⟨s0, s1, s2, s3, s4, s5, s6⟩ := HB22.out
  have lt15_22 : v13.heap.size < v15.heap.size := s5.lt
  have le15_22 : w.heap.size ≤ v15.heap.size := s6.size
  have HS0 : Hid (Has (v15.alloc (.cells #[.int .i64 0, .int .i64 0, .int .i64 0, .int .i64 0, .slice none 0 0] 24)) (v15.heap.size) 24 #[.int .i64 0, .int .i64 0, .int .i64 0, .int .i64 0, .slice none 0 0]) := Lib.hid (Has.made v15 24 #[.int .i64 0, .int .i64 0, .int .i64 0, .int .i64 0, .slice none 0 0])
  obtain ⟨v16, hv16⟩ : ∃ v16, (v15.alloc (.cells #[.int .i64 0, .int .i64 0, .int .i64 0, .int .i64 0, .slice none 0 0] 24)).setRow (v15.heap.size) (lkC l12a A8 c8) = v16 := ⟨_, rfl⟩
  have hy16_ : v15.heap.size + 1 ≤ v16.heap.size := by rw [← hv16]; simp
  have hbw : Below v15.heap.size v15 v16 := by rw [← hv16]; exact (below_row (g := v15.heap.size) (Below.alloc (Below.refl v15.heap.size v15) (Nat.le_refl _) (.cells #[.int .i64 0, .int .i64 0, .int .i64 0, .int .i64 0, .slice none 0 0] 24)) (by omega) (lkC l12a A8 c8))
  have HB23 : Hid (Has v16 (v1.heap.size) 24 (lkC l12b A2 c2) ∧ Has v16 (v5.heap.size) 24 (lkC l12b A3 c3) ∧ Has v16 (v7.heap.size) 24 (lkC l12d A5 c5) ∧ Has v16 (v11.heap.size) 24 (lkC l12d A6 c6) ∧ WsR (Nw (Nw (fun b => b = v2.heap.size) vb v3) v12 v13) v16 A7 0 c7 l12a.ws ∧ Has v16 (v13.heap.size) 24 (lkC l12a A7 c7) ∧ Has v16 (v15.heap.size) 24 (lkC l12a A8 c8) ∧ Below w.heap.size w v16) := Lib.hid ⟨s0.under hbw s0.lt, s1.under hbw s1.lt, s2.under hbw s2.lt, s3.under hbw s3.lt, s4.under hbw, s5.under hbw s5.lt, (by rw [← hv16]; exact (has_row11 (Has.made v15 24 #[.int .i64 0, .int .i64 0, .int .i64 0, .int .i64 0, .slice none 0 0]) (lkC l12a A8 c8))), s6.trans (hbw.mono s6.size)⟩
  clear hbw
  have HWv16 := Lib.hid hv16
  clear s0 s1 s2 s3 s4 s5 s6
  clear hv16 HB22
  go_upto_region 9 with (first | (with_reducible refine wpList_store_rowTo (o := ⟨none, _, _, _, _, _⟩) rfl 24 _ _ rfl rfl (v15.heap.size) (lkC l12a A8 c8) rfl rfl 24 _ (HS0.out).raw11 (by kernel_rfl) (by kernel_rfl) (by kernel_rfl) ?_))
  rw [HWv16.out]
  clear HWv16 HS0
  obtain ⟨s0, s1, s2, s3, s4, s5, s6, s7⟩ := HB23.out
  have HL0 := Lib.hid s5
  have HK := Lib.hid (HT6.out (Nw (Nw (fun b => b = v2.heap.size) vb v3) v12 v13) v16 A7 c7 s4)
  clear s0 s1 s2 s3 s4 s5 s6 s7
  go_wp2_with (first | (with_reducible refine wpList_load_row (o := ⟨some 80, _, _, _, _, _⟩) rfl 24 _ rfl (v13.heap.size) rfl 24 (lkC l12a A7 c7) (0, 0) _ (HL0.out).raw11 Try.underlying24 rfl (by kernel_rfl) ?_))
  refine HK.out.mono ?_
  rintro e v17 ⟨A9, c9, B9, d9, rfl, hw9, hl9, hb1⟩
  obtain ⟨s0, s1, s2, s3, s4, s5, s6, s7⟩ := HB23.out
  have hbn : Below v16.heap.size v16 v17 := hb1
  have HB24 : Hid (Has v17 (v1.heap.size) 24 (lkC l12b A2 c2) ∧ Has v17 (v5.heap.size) 24 (lkC l12b A3 c3) ∧ Has v17 (v7.heap.size) 24 (lkC l12d A5 c5) ∧ Has v17 (v11.heap.size) 24 (lkC l12d A6 c6) ∧ WsR (Nw (Nw (fun b => b = v2.heap.size) vb v3) v12 v13) v17 A7 0 c7 l12a.ws ∧ Has v17 (v13.heap.size) 24 (lkC l12a A7 c7) ∧ Has v17 (v15.heap.size) 24 (lkC l12a A8 c8) ∧ Below w.heap.size w v17) := Lib.hid ⟨s0.under hbn s0.lt, s1.under hbn s1.lt, s2.under hbn s2.lt, s3.under hbn s3.lt, s4.under hbn, s5.under hbn s5.lt, s6.under hbn s6.lt, s7.trans (hbn.mono s7.size)⟩
  have hz17_ := hbn.size
  clear s0 s1 s2 s3 s4 s5 s6 s7
  clear HK HB23 HL0 HT6 hb1
  clear hbn
  clear hw9 hl9
  obtain ⟨s0, s1, s2, s3, s4, s5, s6, s7⟩ := HB24.out
  have HB25 : Hid (Has v17 (v1.heap.size) 24 (lkC l12b A2 c2) ∧ Has v17 (v5.heap.size) 24 (lkC l12b A3 c3) ∧ Has v17 (v7.heap.size) 24 (lkC l12d A5 c5) ∧ Has v17 (v11.heap.size) 24 (lkC l12d A6 c6) ∧ Has v17 (v13.heap.size) 24 (lkC l12a A7 c7) ∧ Has v17 (v15.heap.size) 24 (lkC l12a A8 c8) ∧ Below w.heap.size w v17) := Lib.hid ⟨s0, s1, s2, s3, s5, s6, s7⟩
  clear s0 s1 s2 s3 s4 s5 s6 s7
  clear HB24
  obtain ⟨s0, s1, s2, s3, s4, s5, s6⟩ := HB25.out
  have lt17_25 : v15.heap.size < v17.heap.size := s5.lt
  have le17_25 : w.heap.size ≤ v17.heap.size := s6.size
  have HS0 : Hid (Has (v17.alloc (.cells #[.int .i64 0, .int .i64 0, .int .i64 0, .int .i64 0, .slice none 0 0] 24)) (v17.heap.size) 24 #[.int .i64 0, .int .i64 0, .int .i64 0, .int .i64 0, .slice none 0 0]) := Lib.hid (Has.made v17 24 #[.int .i64 0, .int .i64 0, .int .i64 0, .int .i64 0, .slice none 0 0])
  obtain ⟨v18, hv18⟩ : ∃ v18, (v17.alloc (.cells #[.int .i64 0, .int .i64 0, .int .i64 0, .int .i64 0, .slice none 0 0] 24)).setRow (v17.heap.size) (lkC l12a A9 c9) = v18 := ⟨_, rfl⟩
  have hy18_ : v17.heap.size + 1 ≤ v18.heap.size := by rw [← hv18]; simp
  have hbw : Below v17.heap.size v17 v18 := by rw [← hv18]; exact (below_row (g := v17.heap.size) (Below.alloc (Below.refl v17.heap.size v17) (Nat.le_refl _) (.cells #[.int .i64 0, .int .i64 0, .int .i64 0, .int .i64 0, .slice none 0 0] 24)) (by omega) (lkC l12a A9 c9))
  have HB26 : Hid (Has v18 (v1.heap.size) 24 (lkC l12b A2 c2) ∧ Has v18 (v5.heap.size) 24 (lkC l12b A3 c3) ∧ Has v18 (v7.heap.size) 24 (lkC l12d A5 c5) ∧ Has v18 (v11.heap.size) 24 (lkC l12d A6 c6) ∧ Has v18 (v13.heap.size) 24 (lkC l12a A7 c7) ∧ Has v18 (v15.heap.size) 24 (lkC l12a A8 c8) ∧ Has v18 (v17.heap.size) 24 (lkC l12a A9 c9) ∧ Below w.heap.size w v18) := Lib.hid ⟨s0.under hbw s0.lt, s1.under hbw s1.lt, s2.under hbw s2.lt, s3.under hbw s3.lt, s4.under hbw s4.lt, s5.under hbw s5.lt, (by rw [← hv18]; exact (has_row11 (Has.made v17 24 #[.int .i64 0, .int .i64 0, .int .i64 0, .int .i64 0, .slice none 0 0]) (lkC l12a A9 c9))), s6.trans (hbw.mono s6.size)⟩
  clear hbw
  have HWv18 := Lib.hid hv18
  clear s0 s1 s2 s3 s4 s5 s6
  clear hv18 HB25
  go_upto_region 10 with (first | (with_reducible refine wpList_store_rowTo (o := ⟨none, _, _, _, _, _⟩) rfl 24 _ _ rfl rfl (v17.heap.size) (lkC l12a A9 c9) rfl rfl 24 _ (HS0.out).raw11 (by kernel_rfl) (by kernel_rfl) (by kernel_rfl) ?_))
  rw [HWv18.out]
  clear HWv18 HS0
  have HBF := Lib.hid HB26.out.2.2.2.2.2.2.2
  go_wp2
  go_ret
  exact ⟨rfl, HBF.out⟩
end Go.Proofs.Ytbohoejikihnfaa
