/-
  linesidelaw10.ShakeSends, walked.
-/
import Derived.Test.YtekcnmimfhiblaaShEqs
import Derived.Deep.DeepCutAuto
namespace Go.Proofs.Ytekcnmimfhiblaa
open Go.RowKit
open Go.Great

set_option maxRecDepth 100000 in
set_option maxHeartbeats 4000000 in
theorem shakeSends_at (p : Peer) (q : Pdu) (A : Option Addr) (c : Nat) (A2 : Option Addr) (n2 c2 : Nat) (xs : List Nat) (y : Nat) (w : World) (hpo : p.ok) (hk : q.ok) (hm : q.body.length ≤ maxLen) (hs : Sl w 1 A q.body.length c (u8s q.body)) (hin : InBody w A2 n2 c2 xs) (hy : y < 256) :
    Calls Try.prog 4 #[prV p, pdV q A c, .slice A2 n2 c2, .int .u8 (y : Nat)] w fun e w' => e = .returned (.bool true) ∧ Below w.heap.size w w' := by
  obtain ⟨rfl, hcap, hlm, hs2, hx8⟩ := hin
  unfold maxLen at hlm
  unfold maxLen at hm
  obtain ⟨wa, hwa⟩ : ∃ wa, (w.alloc (.cells (prA p) 26)).alloc (.cells (pdA q A c) 30) = wa := ⟨_, rfl⟩
  have hbwa : Below w.heap.size w wa := by rw [← hwa]; exact ((Below.refl _ _).alloc (Nat.le_refl _) _).alloc (by simp) _
  have h0 : Has wa (w.heap.size) 26 (prA p) := by rw [← hwa]; exact ((Has.made _ _ _).beside _)
  have h1 : Has wa (w.heap.size + 1) 30 (pdA q A c) := by rw [← hwa]; exact (has_at (by simp))
  have HWA := Lib.hid hwa; have HBWA := Lib.hid hbwa
  have HSL := Lib.hid (fun W (hW : Below w.heap.size w W) => Sl.under hs hW)
  have HSX := Lib.hid (fun W (hW : Below w.heap.size w W) => Sl.under hs2 hW)
  clear hs2
  have HB0 : Hid (Has wa (w.heap.size) 26 (prA p) ∧ Has wa (w.heap.size + 1) 30 (pdA q A c) ∧ Below w.heap.size w wa) := Lib.hid ⟨h0, h1, hbwa⟩
  have HAW := Lib.hid (awake10_any wa)
  clear hwa hbwa h0 h1 hs HBWA
  unfold prV pdV at *
  go_enter Try.func4, Try.ntmps4
  go_upto_region 1 with fail
  rw [HWA.out]
  clear HWA
  obtain ⟨s0, s1, s2⟩ := HB0.out
  have HK := Lib.hid (HAW.out)
  clear s0 s1 s2
  go_wp2_with fail
  refine HK.out.mono ?_
  rintro e v1 ⟨rfl, hb1⟩
  obtain ⟨s0, s1, s2⟩ := HB0.out
  have hbn : Below wa.heap.size wa v1 := hb1
  have HB1 : Hid (Has v1 (w.heap.size) 26 (prA p) ∧ Has v1 (w.heap.size + 1) 30 (pdA q A c) ∧ Below w.heap.size w v1) := Lib.hid ⟨s0.under hbn s0.lt, s1.under hbn s1.lt, s2.trans (hbn.mono s2.size)⟩
  clear s0 s1 s2
  clear HK HB0 HAW hb1
  clear hbn
  have c5 : v1.cell? ⟨w.heap.size + 1, 5, none⟩ = some (.slice A q.body.length c) := HB1.out.2.1.cell 5
  by_cases hgo : q.body.length ≤ 2000 ∧ xs.length ≤ 2000
  rotate_left
  · have hno : (2000 : Int) < (q.body.length : Int) ∨ (¬ (2000 : Int) < (q.body.length : Int) ∧ (2000 : Int) < (xs.length : Int)) := by omega
    have HBF := Lib.hid HB1.out.2.2
    clear HB1 HSL HSX hgo
    rcases hno with h1 | ⟨h1, h2⟩
    all_goals
      go_wp2
      go_ret
      exact ⟨rfl, HBF.out⟩
  obtain ⟨hg1, hg2⟩ := hgo
  have x1 : ¬ (2000 : Int) < (q.body.length : Int) := by omega
  have x2 : ¬ (2000 : Int) < (xs.length : Int) := by omega
  have hA1 := fun W hs => osh_data p A2 c2 xs hpo hx8 hg2 W hs
  have hA2 := fun W hs => ref_data p A2 c2 xs hpo hx8 W hs
  have hB1 := fun W hs => osh_take p q A c hpo hk hg1 W hs
  have hB2 := fun W hs => ref_take p q A c hpo hk hg1 W hs
  have hC1 := fun W => osh_end p y hpo hy W
  have hC2 := fun W => ref_end p y hpo hy W
  have hD1 := fun W hs => osh_close p q A c hpo hk hg1 W hs
  have hD2 := fun W hs => ref_close p q A c hpo hk hg1 W hs
  have hS1 := fun A B c d W hs ht => same_any9 (shData p xs).1 A B c d (dat_8 p hx8) W hs ht
  have hS2 := fun A B c d W hs ht => same_any9 (shEnd p y).2.1 A B c d (end_8 p hy) W hs ht
  unfold ShPostD prV pdV at hA1 hA2
  unfold ShPostT prV pdV at hB1 hB2
  unfold ShPostE prV pdV at hC1 hC2
  unfold ShPost2 prV pdV at hD1 hD2
  unfold pdV at hS1 hS2
  generalize shData p xs = r1 at hA1 hA2 hS1
  generalize shTake p q = r2 at hB1 hB2
  generalize shEnd p y = r3 at hC1 hC2 hS2
  generalize shClose p q = r4 at hD1 hD2
  have HA1 := Lib.hid hA1; have HA2 := Lib.hid hA2; have HB1' := Lib.hid hB1; have HB2' := Lib.hid hB2; have HC1 := Lib.hid hC1; have HC2 := Lib.hid hC2; have HD1 := Lib.hid hD1; have HD2 := Lib.hid hD2
  have HS1 := Lib.hid hS1; have HS2 := Lib.hid hS2
  clear hA1 hA2 hB1 hB2 hC1 hC2 hD1 hD2 hS1 hS2 hpo hk hy hm hx8
  obtain ⟨s0, s1, s2⟩ := HB1.out
  have HL0 := Lib.hid s0
  have HK := Lib.hid (HA1.out v1 (HSX.out _ s2))
  clear s0 s1 s2
  go_wp2_with (first | (with_reducible refine wpList_load_row (o := ⟨some 46, _, _, _, _, _⟩) rfl 26 _ rfl (w.heap.size) rfl 26 (prA p) (0, 0) _ (HL0.out).raw Try.underlying26 rfl (by kernel_rfl) ?_))
  refine HK.out.mono ?_
  rintro e v2 ⟨A3, c3, rfl, hsA3, _, hb1⟩
  obtain ⟨s0, s1, s2⟩ := HB1.out
  have hbn : Below v1.heap.size v1 v2 := hb1.out
  have HB2 : Hid (Has v2 (w.heap.size) 26 (prA p) ∧ Has v2 (w.heap.size + 1) 30 (pdA q A c) ∧ Below w.heap.size w v2) := Lib.hid ⟨s0.under hbn s0.lt, s1.under hbn s1.lt, s2.trans (hbn.mono s2.size)⟩
  clear s0 s1 s2
  clear HK HB1 HL0 HA1 hb1 c5 x1 x2
  clear hbn
  obtain ⟨s0, s1, s2⟩ := HB2.out
  have HB3 : Hid (Has v2 (w.heap.size) 26 (prA p) ∧ Has v2 (w.heap.size + 1) 30 (pdA q A c) ∧ Sl v2 1 A3 r1.1.body.length c3 (u8s r1.1.body) ∧ Below w.heap.size w v2) := Lib.hid ⟨s0, s1, hsA3.out, s2⟩
  clear s0 s1 s2
  clear HB2
  clear hsA3
  obtain ⟨s0, s1, s2, s3⟩ := HB3.out
  have lt2_3 : w.heap.size + 1 < v2.heap.size := s1.lt
  have le2_3 : w.heap.size ≤ v2.heap.size := s3.size
  have HS0 : Hid (Has (v2.alloc (.cells #[.int .i64 0, .int .i64 0, .int .i64 0, .int .u32 0, .int .u32 0, .slice none 0 0, .int .u64 0] 30)) (v2.heap.size) 30 #[.int .i64 0, .int .i64 0, .int .i64 0, .int .u32 0, .int .u32 0, .slice none 0 0, .int .u64 0]) := Lib.hid (Has.made v2 30 #[.int .i64 0, .int .i64 0, .int .i64 0, .int .u32 0, .int .u32 0, .slice none 0 0, .int .u64 0])
  obtain ⟨v3, hv3⟩ : ∃ v3, (v2.alloc (.cells #[.int .i64 0, .int .i64 0, .int .i64 0, .int .u32 0, .int .u32 0, .slice none 0 0, .int .u64 0] 30)).setRow (v2.heap.size) (pdA (r1.1) A3 c3) = v3 := ⟨_, rfl⟩
  have hbw : Below v2.heap.size v2 v3 := by rw [← hv3]; exact (below_row (g := v2.heap.size) (Below.alloc (Below.refl v2.heap.size v2) (Nat.le_refl _) (.cells #[.int .i64 0, .int .i64 0, .int .i64 0, .int .u32 0, .int .u32 0, .slice none 0 0, .int .u64 0] 30)) (by omega) (pdA (r1.1) A3 c3))
  have HB4 : Hid (Has v3 (w.heap.size) 26 (prA p) ∧ Has v3 (w.heap.size + 1) 30 (pdA q A c) ∧ Sl v3 1 A3 r1.1.body.length c3 (u8s r1.1.body) ∧ Has v3 (v2.heap.size) 30 (pdA (r1.1) A3 c3) ∧ Below w.heap.size w v3) := Lib.hid ⟨s0.under hbw s0.lt, s1.under hbw s1.lt, s2.under hbw, (by rw [← hv3]; exact (has_setRow7 (Has.made v2 30 #[.int .i64 0, .int .i64 0, .int .i64 0, .int .u32 0, .int .u32 0, .slice none 0 0, .int .u64 0]) (pdA (r1.1) A3 c3))), s3.trans (hbw.mono s3.size)⟩
  clear hbw
  have HWv3 := Lib.hid hv3
  clear s0 s1 s2 s3
  clear hv3 HB3
  go_upto_region 5 with (first | (with_reducible refine wpList_store_rowTo (o := ⟨none, _, _, _, _, _⟩) rfl 30 _ _ rfl rfl (v2.heap.size) (pdA (r1.1) A3 c3) rfl rfl 30 _ (HS0.out).raw (by kernel_rfl) (by kernel_rfl) (by kernel_rfl) ?_))
  rw [HWv3.out]
  clear HWv3 HS0
  obtain ⟨s0, s1, s2, s3, s4⟩ := HB4.out
  have HL0 := Lib.hid s0
  have HK := Lib.hid (HA2.out v3 (HSX.out _ s4))
  clear s0 s1 s2 s3 s4
  go_wp2_with (first | (with_reducible refine wpList_load_row (o := ⟨some 52, _, _, _, _, _⟩) rfl 26 _ rfl (w.heap.size) rfl 26 (prA p) (0, 0) _ (HL0.out).raw Try.underlying26 rfl (by kernel_rfl) ?_))
  refine HK.out.mono ?_
  rintro e v4 ⟨A4, c4, rfl, hsA4, _, hb1⟩
  obtain ⟨s0, s1, s2, s3, s4⟩ := HB4.out
  have hbn : Below v3.heap.size v3 v4 := hb1.out
  have HB5 : Hid (Has v4 (w.heap.size) 26 (prA p) ∧ Has v4 (w.heap.size + 1) 30 (pdA q A c) ∧ Sl v4 1 A3 r1.1.body.length c3 (u8s r1.1.body) ∧ Has v4 (v2.heap.size) 30 (pdA (r1.1) A3 c3) ∧ Below w.heap.size w v4) := Lib.hid ⟨s0.under hbn s0.lt, s1.under hbn s1.lt, s2.under hbn, s3.under hbn s3.lt, s4.trans (hbn.mono s4.size)⟩
  clear s0 s1 s2 s3 s4
  clear HK HB4 HL0 HA2 hb1
  clear hbn
  obtain ⟨s0, s1, s2, s3, s4⟩ := HB5.out
  have HB6 : Hid (Has v4 (w.heap.size) 26 (prA p) ∧ Has v4 (w.heap.size + 1) 30 (pdA q A c) ∧ Sl v4 1 A3 r1.1.body.length c3 (u8s r1.1.body) ∧ Has v4 (v2.heap.size) 30 (pdA (r1.1) A3 c3) ∧ Sl v4 1 A4 r1.1.body.length c4 (u8s r1.1.body) ∧ Below w.heap.size w v4) := Lib.hid ⟨s0, s1, s2, s3, hsA4.out, s4⟩
  clear s0 s1 s2 s3 s4
  clear HB5
  clear hsA4
  obtain ⟨s0, s1, s2, s3, s4, s5⟩ := HB6.out
  have lt4_6 : v2.heap.size < v4.heap.size := s3.lt
  have le4_6 : w.heap.size ≤ v4.heap.size := s5.size
  have HS0 : Hid (Has (v4.alloc (.cells #[.int .i64 0, .int .i64 0, .int .i64 0, .int .u32 0, .int .u32 0, .slice none 0 0, .int .u64 0] 30)) (v4.heap.size) 30 #[.int .i64 0, .int .i64 0, .int .i64 0, .int .u32 0, .int .u32 0, .slice none 0 0, .int .u64 0]) := Lib.hid (Has.made v4 30 #[.int .i64 0, .int .i64 0, .int .i64 0, .int .u32 0, .int .u32 0, .slice none 0 0, .int .u64 0])
  obtain ⟨v5, hv5⟩ : ∃ v5, (v4.alloc (.cells #[.int .i64 0, .int .i64 0, .int .i64 0, .int .u32 0, .int .u32 0, .slice none 0 0, .int .u64 0] 30)).setRow (v4.heap.size) (pdA (r1.1) A4 c4) = v5 := ⟨_, rfl⟩
  have hbw : Below v4.heap.size v4 v5 := by rw [← hv5]; exact (below_row (g := v4.heap.size) (Below.alloc (Below.refl v4.heap.size v4) (Nat.le_refl _) (.cells #[.int .i64 0, .int .i64 0, .int .i64 0, .int .u32 0, .int .u32 0, .slice none 0 0, .int .u64 0] 30)) (by omega) (pdA (r1.1) A4 c4))
  have HB7 : Hid (Has v5 (w.heap.size) 26 (prA p) ∧ Has v5 (w.heap.size + 1) 30 (pdA q A c) ∧ Sl v5 1 A3 r1.1.body.length c3 (u8s r1.1.body) ∧ Has v5 (v2.heap.size) 30 (pdA (r1.1) A3 c3) ∧ Sl v5 1 A4 r1.1.body.length c4 (u8s r1.1.body) ∧ Has v5 (v4.heap.size) 30 (pdA (r1.1) A4 c4) ∧ Below w.heap.size w v5) := Lib.hid ⟨s0.under hbw s0.lt, s1.under hbw s1.lt, s2.under hbw, s3.under hbw s3.lt, s4.under hbw, (by rw [← hv5]; exact (has_setRow7 (Has.made v4 30 #[.int .i64 0, .int .i64 0, .int .i64 0, .int .u32 0, .int .u32 0, .slice none 0 0, .int .u64 0]) (pdA (r1.1) A4 c4))), s5.trans (hbw.mono s5.size)⟩
  clear hbw
  have HWv5 := Lib.hid hv5
  clear s0 s1 s2 s3 s4 s5
  clear hv5 HB6
  go_upto_region 6 with (first | (with_reducible refine wpList_store_rowTo (o := ⟨none, _, _, _, _, _⟩) rfl 30 _ _ rfl rfl (v4.heap.size) (pdA (r1.1) A4 c4) rfl rfl 30 _ (HS0.out).raw (by kernel_rfl) (by kernel_rfl) (by kernel_rfl) ?_))
  rw [HWv5.out]
  clear HWv5 HS0
  obtain ⟨s0, s1, s2, s3, s4, s5, s6⟩ := HB7.out
  have HL0 := Lib.hid s3
  have HL1 := Lib.hid s5
  have HK := Lib.hid (HS1.out A3 A4 c3 c4 v5 s2 s4)
  clear s0 s1 s2 s3 s4 s5 s6
  go_wp2_with (first | (with_reducible refine wpList_load_row (o := ⟨some 57, _, _, _, _, _⟩) rfl 30 _ rfl (v2.heap.size) rfl 30 (pdA (r1.1) A3 c3) (0, 0) _ (HL0.out).raw Try.underlying30 rfl (by kernel_rfl) ?_) | (with_reducible refine wpList_load_row (o := ⟨some 58, _, _, _, _, _⟩) rfl 30 _ rfl (v4.heap.size) rfl 30 (pdA (r1.1) A4 c4) (0, 0) _ (HL1.out).raw Try.underlying30 rfl (by kernel_rfl) ?_))
  refine HK.out.mono ?_
  rintro e v6 ⟨rfl, hb1⟩
  obtain ⟨s0, s1, s2, s3, s4, s5, s6⟩ := HB7.out
  have hbn : Below v5.heap.size v5 v6 := hb1
  have HB8 : Hid (Has v6 (w.heap.size) 26 (prA p) ∧ Has v6 (w.heap.size + 1) 30 (pdA q A c) ∧ Sl v6 1 A3 r1.1.body.length c3 (u8s r1.1.body) ∧ Has v6 (v2.heap.size) 30 (pdA (r1.1) A3 c3) ∧ Sl v6 1 A4 r1.1.body.length c4 (u8s r1.1.body) ∧ Has v6 (v4.heap.size) 30 (pdA (r1.1) A4 c4) ∧ Below w.heap.size w v6) := Lib.hid ⟨s0.under hbn s0.lt, s1.under hbn s1.lt, s2.under hbn, s3.under hbn s3.lt, s4.under hbn, s5.under hbn s5.lt, s6.trans (hbn.mono s6.size)⟩
  clear s0 s1 s2 s3 s4 s5 s6
  clear HK HB7 HL0 HL1 HS1 hb1
  clear hbn
  obtain ⟨s0, s1, s2, s3, s4, s5, s6⟩ := HB8.out
  have HL0 := Lib.hid s0
  have HL1 := Lib.hid s1
  have HK := Lib.hid (HB1'.out v6 (HSL.out _ s6))
  clear s0 s1 s2 s3 s4 s5 s6
  go_wp2_with (first | (with_reducible refine wpList_load_row (o := ⟨some 61, _, _, _, _, _⟩) rfl 26 _ rfl (w.heap.size) rfl 26 (prA p) (0, 0) _ (HL0.out).raw Try.underlying26 rfl (by kernel_rfl) ?_) | (with_reducible refine wpList_load_row (o := ⟨some 62, _, _, _, _, _⟩) rfl 30 _ rfl (w.heap.size + 1) rfl 30 (pdA q A c) (0, 0) _ (HL1.out).raw Try.underlying30 rfl (by kernel_rfl) ?_))
  refine HK.out.mono ?_
  rintro e v7 ⟨A5, c5, rfl, hsA5, _, hb1⟩
  obtain ⟨s0, s1, s2, s3, s4, s5, s6⟩ := HB8.out
  have hbn : Below v6.heap.size v6 v7 := hb1.out
  have HB9 : Hid (Has v7 (w.heap.size) 26 (prA p) ∧ Has v7 (w.heap.size + 1) 30 (pdA q A c) ∧ Sl v7 1 A3 r1.1.body.length c3 (u8s r1.1.body) ∧ Has v7 (v2.heap.size) 30 (pdA (r1.1) A3 c3) ∧ Sl v7 1 A4 r1.1.body.length c4 (u8s r1.1.body) ∧ Has v7 (v4.heap.size) 30 (pdA (r1.1) A4 c4) ∧ Below w.heap.size w v7) := Lib.hid ⟨s0.under hbn s0.lt, s1.under hbn s1.lt, s2.under hbn, s3.under hbn s3.lt, s4.under hbn, s5.under hbn s5.lt, s6.trans (hbn.mono s6.size)⟩
  clear s0 s1 s2 s3 s4 s5 s6
  clear HK HB8 HL0 HL1 HB1' hb1
  clear hbn
  obtain ⟨s0, s1, s2, s3, s4, s5, s6⟩ := HB9.out
  have HB10 : Hid (Has v7 (w.heap.size) 26 (prA p) ∧ Has v7 (w.heap.size + 1) 30 (pdA q A c) ∧ Sl v7 1 A3 r1.1.body.length c3 (u8s r1.1.body) ∧ Has v7 (v2.heap.size) 30 (pdA (r1.1) A3 c3) ∧ Sl v7 1 A4 r1.1.body.length c4 (u8s r1.1.body) ∧ Has v7 (v4.heap.size) 30 (pdA (r1.1) A4 c4) ∧ Sl v7 1 A5 r2.1.length c5 (u8s r2.1) ∧ Below w.heap.size w v7) := Lib.hid ⟨s0, s1, s2, s3, s4, s5, hsA5.out, s6⟩
  clear s0 s1 s2 s3 s4 s5 s6
  clear HB9
  clear hsA5
  obtain ⟨s0, s1, s2, s3, s4, s5, s6, s7⟩ := HB10.out
  have HL0 := Lib.hid s0
  have HL1 := Lib.hid s1
  have HK := Lib.hid (HB2'.out v7 (HSL.out _ s7))
  clear s0 s1 s2 s3 s4 s5 s6 s7
  go_wp2_with (first | (with_reducible refine wpList_load_row (o := ⟨some 67, _, _, _, _, _⟩) rfl 26 _ rfl (w.heap.size) rfl 26 (prA p) (0, 0) _ (HL0.out).raw Try.underlying26 rfl (by kernel_rfl) ?_) | (with_reducible refine wpList_load_row (o := ⟨some 68, _, _, _, _, _⟩) rfl 30 _ rfl (w.heap.size + 1) rfl 30 (pdA q A c) (0, 0) _ (HL1.out).raw Try.underlying30 rfl (by kernel_rfl) ?_))
  refine HK.out.mono ?_
  rintro e v8 ⟨A6, c6, rfl, hsA6, _, hb1⟩
  obtain ⟨s0, s1, s2, s3, s4, s5, s6, s7⟩ := HB10.out
  have hbn : Below v7.heap.size v7 v8 := hb1.out
  have HB11 : Hid (Has v8 (w.heap.size) 26 (prA p) ∧ Has v8 (w.heap.size + 1) 30 (pdA q A c) ∧ Sl v8 1 A3 r1.1.body.length c3 (u8s r1.1.body) ∧ Has v8 (v2.heap.size) 30 (pdA (r1.1) A3 c3) ∧ Sl v8 1 A4 r1.1.body.length c4 (u8s r1.1.body) ∧ Has v8 (v4.heap.size) 30 (pdA (r1.1) A4 c4) ∧ Sl v8 1 A5 r2.1.length c5 (u8s r2.1) ∧ Below w.heap.size w v8) := Lib.hid ⟨s0.under hbn s0.lt, s1.under hbn s1.lt, s2.under hbn, s3.under hbn s3.lt, s4.under hbn, s5.under hbn s5.lt, s6.under hbn, s7.trans (hbn.mono s7.size)⟩
  clear s0 s1 s2 s3 s4 s5 s6 s7
  clear HK HB10 HL0 HL1 HB2' hb1
  clear hbn
  obtain ⟨s0, s1, s2, s3, s4, s5, s6, s7⟩ := HB11.out
  have HB12 : Hid (Has v8 (w.heap.size) 26 (prA p) ∧ Has v8 (w.heap.size + 1) 30 (pdA q A c) ∧ Sl v8 1 A3 r1.1.body.length c3 (u8s r1.1.body) ∧ Has v8 (v2.heap.size) 30 (pdA (r1.1) A3 c3) ∧ Sl v8 1 A4 r1.1.body.length c4 (u8s r1.1.body) ∧ Has v8 (v4.heap.size) 30 (pdA (r1.1) A4 c4) ∧ Sl v8 1 A5 r2.1.length c5 (u8s r2.1) ∧ Sl v8 1 A6 r2.1.length c6 (u8s r2.1) ∧ Below w.heap.size w v8) := Lib.hid ⟨s0, s1, s2, s3, s4, s5, s6, hsA6.out, s7⟩
  clear s0 s1 s2 s3 s4 s5 s6 s7
  clear HB11
  clear hsA6
  obtain ⟨s0, s1, s2, s3, s4, s5, s6, s7, s8⟩ := HB12.out
  have HL0 := Lib.hid s0
  have HK := Lib.hid (HC1.out v8)
  clear s0 s1 s2 s3 s4 s5 s6 s7 s8
  go_wp2_with (first | (with_reducible refine wpList_load_row (o := ⟨some 73, _, _, _, _, _⟩) rfl 26 _ rfl (w.heap.size) rfl 26 (prA p) (0, 0) _ (HL0.out).raw Try.underlying26 rfl (by kernel_rfl) ?_))
  refine HK.out.mono ?_
  rintro e v9 ⟨A7, c7, rfl, hsA7, _, hb1⟩
  obtain ⟨s0, s1, s2, s3, s4, s5, s6, s7, s8⟩ := HB12.out
  have hbn : Below v8.heap.size v8 v9 := hb1.out
  have HB13 : Hid (Has v9 (w.heap.size) 26 (prA p) ∧ Has v9 (w.heap.size + 1) 30 (pdA q A c) ∧ Sl v9 1 A3 r1.1.body.length c3 (u8s r1.1.body) ∧ Has v9 (v2.heap.size) 30 (pdA (r1.1) A3 c3) ∧ Sl v9 1 A4 r1.1.body.length c4 (u8s r1.1.body) ∧ Has v9 (v4.heap.size) 30 (pdA (r1.1) A4 c4) ∧ Sl v9 1 A5 r2.1.length c5 (u8s r2.1) ∧ Sl v9 1 A6 r2.1.length c6 (u8s r2.1) ∧ Below w.heap.size w v9) := Lib.hid ⟨s0.under hbn s0.lt, s1.under hbn s1.lt, s2.under hbn, s3.under hbn s3.lt, s4.under hbn, s5.under hbn s5.lt, s6.under hbn, s7.under hbn, s8.trans (hbn.mono s8.size)⟩
  clear s0 s1 s2 s3 s4 s5 s6 s7 s8
  clear HK HB12 HL0 HC1 hb1
  clear hbn
  obtain ⟨s0, s1, s2, s3, s4, s5, s6, s7, s8⟩ := HB13.out
  have HB14 : Hid (Has v9 (w.heap.size) 26 (prA p) ∧ Has v9 (w.heap.size + 1) 30 (pdA q A c) ∧ Sl v9 1 A3 r1.1.body.length c3 (u8s r1.1.body) ∧ Has v9 (v2.heap.size) 30 (pdA (r1.1) A3 c3) ∧ Sl v9 1 A4 r1.1.body.length c4 (u8s r1.1.body) ∧ Has v9 (v4.heap.size) 30 (pdA (r1.1) A4 c4) ∧ Sl v9 1 A5 r2.1.length c5 (u8s r2.1) ∧ Sl v9 1 A6 r2.1.length c6 (u8s r2.1) ∧ Sl v9 1 A7 r3.2.1.body.length c7 (u8s r3.2.1.body) ∧ Below w.heap.size w v9) := Lib.hid ⟨s0, s1, s2, s3, s4, s5, s6, s7, hsA7.out, s8⟩
  clear s0 s1 s2 s3 s4 s5 s6 s7 s8
  clear HB13
  clear hsA7
  obtain ⟨s0, s1, s2, s3, s4, s5, s6, s7, s8, s9⟩ := HB14.out
  have lt9_14 : v4.heap.size < v9.heap.size := s5.lt
  have le9_14 : w.heap.size ≤ v9.heap.size := s9.size
  have HS0 : Hid (Has ((v9.alloc (.cells #[.int .i64 0, .int .i64 0, .int .u32 0, .int .u32 0, .int .u32 0, .int .u32 0, .int .i64 0, .int .u32 0, .int .u32 0, .int .u32 0, .int .u32 0, .int .u32 0, .int .u32 0, .bool false, .int .u32 0, .int .u32 0] 26)).alloc (.cells #[.int .i64 0, .int .i64 0, .int .i64 0, .int .u32 0, .int .u32 0, .slice none 0 0, .int .u64 0] 30)) (v9.heap.size) 26 #[.int .i64 0, .int .i64 0, .int .u32 0, .int .u32 0, .int .u32 0, .int .u32 0, .int .i64 0, .int .u32 0, .int .u32 0, .int .u32 0, .int .u32 0, .int .u32 0, .int .u32 0, .bool false, .int .u32 0, .int .u32 0]) := Lib.hid (Has.beside (Has.made v9 26 #[.int .i64 0, .int .i64 0, .int .u32 0, .int .u32 0, .int .u32 0, .int .u32 0, .int .i64 0, .int .u32 0, .int .u32 0, .int .u32 0, .int .u32 0, .int .u32 0, .int .u32 0, .bool false, .int .u32 0, .int .u32 0]) (.cells #[.int .i64 0, .int .i64 0, .int .i64 0, .int .u32 0, .int .u32 0, .slice none 0 0, .int .u64 0] 30))
  have HS1 : Hid (Has (((v9.alloc (.cells #[.int .i64 0, .int .i64 0, .int .u32 0, .int .u32 0, .int .u32 0, .int .u32 0, .int .i64 0, .int .u32 0, .int .u32 0, .int .u32 0, .int .u32 0, .int .u32 0, .int .u32 0, .bool false, .int .u32 0, .int .u32 0] 26)).alloc (.cells #[.int .i64 0, .int .i64 0, .int .i64 0, .int .u32 0, .int .u32 0, .slice none 0 0, .int .u64 0] 30)).setRow (v9.heap.size) (prA (r3.1))) (v9.heap.size + 1) 30 #[.int .i64 0, .int .i64 0, .int .i64 0, .int .u32 0, .int .u32 0, .slice none 0 0, .int .u64 0]) := Lib.hid (has_setRow_other7 (show Has ((v9.alloc (.cells #[.int .i64 0, .int .i64 0, .int .u32 0, .int .u32 0, .int .u32 0, .int .u32 0, .int .i64 0, .int .u32 0, .int .u32 0, .int .u32 0, .int .u32 0, .int .u32 0, .int .u32 0, .bool false, .int .u32 0, .int .u32 0] 26)).alloc (.cells #[.int .i64 0, .int .i64 0, .int .i64 0, .int .u32 0, .int .u32 0, .slice none 0 0, .int .u64 0] 30)) (v9.heap.size + 1) 30 #[.int .i64 0, .int .i64 0, .int .i64 0, .int .u32 0, .int .u32 0, .slice none 0 0, .int .u64 0] from has_at (by simp)) (by omega) (prA (r3.1)))
  obtain ⟨v10, hv10⟩ : ∃ v10, (((v9.alloc (.cells #[.int .i64 0, .int .i64 0, .int .u32 0, .int .u32 0, .int .u32 0, .int .u32 0, .int .i64 0, .int .u32 0, .int .u32 0, .int .u32 0, .int .u32 0, .int .u32 0, .int .u32 0, .bool false, .int .u32 0, .int .u32 0] 26)).alloc (.cells #[.int .i64 0, .int .i64 0, .int .i64 0, .int .u32 0, .int .u32 0, .slice none 0 0, .int .u64 0] 30)).setRow (v9.heap.size) (prA (r3.1))).setRow (v9.heap.size + 1) (pdA (r3.2.1) A7 c7) = v10 := ⟨_, rfl⟩
  have hbw : Below v9.heap.size v9 v10 := by rw [← hv10]; exact (below_row (g := v9.heap.size + 1) (below_row (g := v9.heap.size) (Below.alloc (Below.alloc (Below.refl v9.heap.size v9) (Nat.le_refl _) (.cells #[.int .i64 0, .int .i64 0, .int .u32 0, .int .u32 0, .int .u32 0, .int .u32 0, .int .i64 0, .int .u32 0, .int .u32 0, .int .u32 0, .int .u32 0, .int .u32 0, .int .u32 0, .bool false, .int .u32 0, .int .u32 0] 26)) (by simp) (.cells #[.int .i64 0, .int .i64 0, .int .i64 0, .int .u32 0, .int .u32 0, .slice none 0 0, .int .u64 0] 30)) (by omega) (prA (r3.1))) (by omega) (pdA (r3.2.1) A7 c7))
  have HB15 : Hid (Has v10 (w.heap.size) 26 (prA p) ∧ Has v10 (w.heap.size + 1) 30 (pdA q A c) ∧ Sl v10 1 A3 r1.1.body.length c3 (u8s r1.1.body) ∧ Has v10 (v2.heap.size) 30 (pdA (r1.1) A3 c3) ∧ Sl v10 1 A4 r1.1.body.length c4 (u8s r1.1.body) ∧ Has v10 (v4.heap.size) 30 (pdA (r1.1) A4 c4) ∧ Sl v10 1 A5 r2.1.length c5 (u8s r2.1) ∧ Sl v10 1 A6 r2.1.length c6 (u8s r2.1) ∧ Sl v10 1 A7 r3.2.1.body.length c7 (u8s r3.2.1.body) ∧ Has v10 (v9.heap.size) 26 (prA (r3.1)) ∧ Has v10 (v9.heap.size + 1) 30 (pdA (r3.2.1) A7 c7) ∧ Below w.heap.size w v10) := Lib.hid ⟨s0.under hbw s0.lt, s1.under hbw s1.lt, s2.under hbw, s3.under hbw s3.lt, s4.under hbw, s5.under hbw s5.lt, s6.under hbw, s7.under hbw, s8.under hbw, (by rw [← hv10]; exact (has_setRow_other7 (has_setRow7 (Has.beside (Has.made v9 26 #[.int .i64 0, .int .i64 0, .int .u32 0, .int .u32 0, .int .u32 0, .int .u32 0, .int .i64 0, .int .u32 0, .int .u32 0, .int .u32 0, .int .u32 0, .int .u32 0, .int .u32 0, .bool false, .int .u32 0, .int .u32 0]) (.cells #[.int .i64 0, .int .i64 0, .int .i64 0, .int .u32 0, .int .u32 0, .slice none 0 0, .int .u64 0] 30)) (prA (r3.1))) (by omega) (pdA (r3.2.1) A7 c7))), (by rw [← hv10]; exact (has_setRow7 (has_setRow_other7 (show Has ((v9.alloc (.cells #[.int .i64 0, .int .i64 0, .int .u32 0, .int .u32 0, .int .u32 0, .int .u32 0, .int .i64 0, .int .u32 0, .int .u32 0, .int .u32 0, .int .u32 0, .int .u32 0, .int .u32 0, .bool false, .int .u32 0, .int .u32 0] 26)).alloc (.cells #[.int .i64 0, .int .i64 0, .int .i64 0, .int .u32 0, .int .u32 0, .slice none 0 0, .int .u64 0] 30)) (v9.heap.size + 1) 30 #[.int .i64 0, .int .i64 0, .int .i64 0, .int .u32 0, .int .u32 0, .slice none 0 0, .int .u64 0] from has_at (by simp)) (by omega) (prA (r3.1))) (pdA (r3.2.1) A7 c7))), s9.trans (hbw.mono s9.size)⟩
  clear hbw
  have HWv10 := Lib.hid hv10
  clear s0 s1 s2 s3 s4 s5 s6 s7 s8 s9
  clear hv10 HB14
  go_upto_region 10 with (first | (with_reducible refine wpList_store_rowTo (o := ⟨none, _, _, _, _, _⟩) rfl 26 _ _ rfl rfl (v9.heap.size) (prA (r3.1)) rfl rfl 26 _ (HS0.out).raw (by kernel_rfl) (by kernel_rfl) (by kernel_rfl) ?_) | (with_reducible refine wpList_store_rowTo (o := ⟨none, _, _, _, _, _⟩) rfl 30 _ _ rfl rfl (v9.heap.size + 1) (pdA (r3.2.1) A7 c7) rfl rfl 30 _ (HS1.out).raw (by kernel_rfl) (by kernel_rfl) (by kernel_rfl) ?_))
  rw [HWv10.out]
  clear HWv10 HS0 HS1
  obtain ⟨s0, s1, s2, s3, s4, s5, s6, s7, s8, s9, s10, s11⟩ := HB15.out
  have HL0 := Lib.hid s0
  have HK := Lib.hid (HC2.out v10)
  clear s0 s1 s2 s3 s4 s5 s6 s7 s8 s9 s10 s11
  go_wp2_with (first | (with_reducible refine wpList_load_row (o := ⟨some 80, _, _, _, _, _⟩) rfl 26 _ rfl (w.heap.size) rfl 26 (prA p) (0, 0) _ (HL0.out).raw Try.underlying26 rfl (by kernel_rfl) ?_))
  refine HK.out.mono ?_
  rintro e v11 ⟨A8, c8, rfl, hsA8, _, hb1⟩
  obtain ⟨s0, s1, s2, s3, s4, s5, s6, s7, s8, s9, s10, s11⟩ := HB15.out
  have hbn : Below v10.heap.size v10 v11 := hb1.out
  have HB16 : Hid (Has v11 (w.heap.size) 26 (prA p) ∧ Has v11 (w.heap.size + 1) 30 (pdA q A c) ∧ Sl v11 1 A3 r1.1.body.length c3 (u8s r1.1.body) ∧ Has v11 (v2.heap.size) 30 (pdA (r1.1) A3 c3) ∧ Sl v11 1 A4 r1.1.body.length c4 (u8s r1.1.body) ∧ Has v11 (v4.heap.size) 30 (pdA (r1.1) A4 c4) ∧ Sl v11 1 A5 r2.1.length c5 (u8s r2.1) ∧ Sl v11 1 A6 r2.1.length c6 (u8s r2.1) ∧ Sl v11 1 A7 r3.2.1.body.length c7 (u8s r3.2.1.body) ∧ Has v11 (v9.heap.size) 26 (prA (r3.1)) ∧ Has v11 (v9.heap.size + 1) 30 (pdA (r3.2.1) A7 c7) ∧ Below w.heap.size w v11) := Lib.hid ⟨s0.under hbn s0.lt, s1.under hbn s1.lt, s2.under hbn, s3.under hbn s3.lt, s4.under hbn, s5.under hbn s5.lt, s6.under hbn, s7.under hbn, s8.under hbn, s9.under hbn s9.lt, s10.under hbn s10.lt, s11.trans (hbn.mono s11.size)⟩
  clear s0 s1 s2 s3 s4 s5 s6 s7 s8 s9 s10 s11
  clear HK HB15 HL0 HC2 hb1
  clear hbn
  obtain ⟨s0, s1, s2, s3, s4, s5, s6, s7, s8, s9, s10, s11⟩ := HB16.out
  have HB17 : Hid (Has v11 (w.heap.size) 26 (prA p) ∧ Has v11 (w.heap.size + 1) 30 (pdA q A c) ∧ Sl v11 1 A3 r1.1.body.length c3 (u8s r1.1.body) ∧ Has v11 (v2.heap.size) 30 (pdA (r1.1) A3 c3) ∧ Sl v11 1 A4 r1.1.body.length c4 (u8s r1.1.body) ∧ Has v11 (v4.heap.size) 30 (pdA (r1.1) A4 c4) ∧ Sl v11 1 A5 r2.1.length c5 (u8s r2.1) ∧ Sl v11 1 A6 r2.1.length c6 (u8s r2.1) ∧ Sl v11 1 A7 r3.2.1.body.length c7 (u8s r3.2.1.body) ∧ Has v11 (v9.heap.size) 26 (prA (r3.1)) ∧ Has v11 (v9.heap.size + 1) 30 (pdA (r3.2.1) A7 c7) ∧ Sl v11 1 A8 r3.2.1.body.length c8 (u8s r3.2.1.body) ∧ Below w.heap.size w v11) := Lib.hid ⟨s0, s1, s2, s3, s4, s5, s6, s7, s8, s9, s10, hsA8.out, s11⟩
  clear s0 s1 s2 s3 s4 s5 s6 s7 s8 s9 s10 s11
  clear HB16
  clear hsA8
  obtain ⟨s0, s1, s2, s3, s4, s5, s6, s7, s8, s9, s10, s11, s12⟩ := HB17.out
  have lt11_17 : v9.heap.size + 1 < v11.heap.size := s10.lt
  have le11_17 : w.heap.size ≤ v11.heap.size := s12.size
  have HS0 : Hid (Has ((v11.alloc (.cells #[.int .i64 0, .int .i64 0, .int .u32 0, .int .u32 0, .int .u32 0, .int .u32 0, .int .i64 0, .int .u32 0, .int .u32 0, .int .u32 0, .int .u32 0, .int .u32 0, .int .u32 0, .bool false, .int .u32 0, .int .u32 0] 26)).alloc (.cells #[.int .i64 0, .int .i64 0, .int .i64 0, .int .u32 0, .int .u32 0, .slice none 0 0, .int .u64 0] 30)) (v11.heap.size) 26 #[.int .i64 0, .int .i64 0, .int .u32 0, .int .u32 0, .int .u32 0, .int .u32 0, .int .i64 0, .int .u32 0, .int .u32 0, .int .u32 0, .int .u32 0, .int .u32 0, .int .u32 0, .bool false, .int .u32 0, .int .u32 0]) := Lib.hid (Has.beside (Has.made v11 26 #[.int .i64 0, .int .i64 0, .int .u32 0, .int .u32 0, .int .u32 0, .int .u32 0, .int .i64 0, .int .u32 0, .int .u32 0, .int .u32 0, .int .u32 0, .int .u32 0, .int .u32 0, .bool false, .int .u32 0, .int .u32 0]) (.cells #[.int .i64 0, .int .i64 0, .int .i64 0, .int .u32 0, .int .u32 0, .slice none 0 0, .int .u64 0] 30))
  have HS1 : Hid (Has (((v11.alloc (.cells #[.int .i64 0, .int .i64 0, .int .u32 0, .int .u32 0, .int .u32 0, .int .u32 0, .int .i64 0, .int .u32 0, .int .u32 0, .int .u32 0, .int .u32 0, .int .u32 0, .int .u32 0, .bool false, .int .u32 0, .int .u32 0] 26)).alloc (.cells #[.int .i64 0, .int .i64 0, .int .i64 0, .int .u32 0, .int .u32 0, .slice none 0 0, .int .u64 0] 30)).setRow (v11.heap.size) (prA (r3.1))) (v11.heap.size + 1) 30 #[.int .i64 0, .int .i64 0, .int .i64 0, .int .u32 0, .int .u32 0, .slice none 0 0, .int .u64 0]) := Lib.hid (has_setRow_other7 (show Has ((v11.alloc (.cells #[.int .i64 0, .int .i64 0, .int .u32 0, .int .u32 0, .int .u32 0, .int .u32 0, .int .i64 0, .int .u32 0, .int .u32 0, .int .u32 0, .int .u32 0, .int .u32 0, .int .u32 0, .bool false, .int .u32 0, .int .u32 0] 26)).alloc (.cells #[.int .i64 0, .int .i64 0, .int .i64 0, .int .u32 0, .int .u32 0, .slice none 0 0, .int .u64 0] 30)) (v11.heap.size + 1) 30 #[.int .i64 0, .int .i64 0, .int .i64 0, .int .u32 0, .int .u32 0, .slice none 0 0, .int .u64 0] from has_at (by simp)) (by omega) (prA (r3.1)))
  obtain ⟨v12, hv12⟩ : ∃ v12, (((v11.alloc (.cells #[.int .i64 0, .int .i64 0, .int .u32 0, .int .u32 0, .int .u32 0, .int .u32 0, .int .i64 0, .int .u32 0, .int .u32 0, .int .u32 0, .int .u32 0, .int .u32 0, .int .u32 0, .bool false, .int .u32 0, .int .u32 0] 26)).alloc (.cells #[.int .i64 0, .int .i64 0, .int .i64 0, .int .u32 0, .int .u32 0, .slice none 0 0, .int .u64 0] 30)).setRow (v11.heap.size) (prA (r3.1))).setRow (v11.heap.size + 1) (pdA (r3.2.1) A8 c8) = v12 := ⟨_, rfl⟩
  have hbw : Below v11.heap.size v11 v12 := by rw [← hv12]; exact (below_row (g := v11.heap.size + 1) (below_row (g := v11.heap.size) (Below.alloc (Below.alloc (Below.refl v11.heap.size v11) (Nat.le_refl _) (.cells #[.int .i64 0, .int .i64 0, .int .u32 0, .int .u32 0, .int .u32 0, .int .u32 0, .int .i64 0, .int .u32 0, .int .u32 0, .int .u32 0, .int .u32 0, .int .u32 0, .int .u32 0, .bool false, .int .u32 0, .int .u32 0] 26)) (by simp) (.cells #[.int .i64 0, .int .i64 0, .int .i64 0, .int .u32 0, .int .u32 0, .slice none 0 0, .int .u64 0] 30)) (by omega) (prA (r3.1))) (by omega) (pdA (r3.2.1) A8 c8))
  have HB18 : Hid (Has v12 (w.heap.size) 26 (prA p) ∧ Has v12 (w.heap.size + 1) 30 (pdA q A c) ∧ Sl v12 1 A3 r1.1.body.length c3 (u8s r1.1.body) ∧ Has v12 (v2.heap.size) 30 (pdA (r1.1) A3 c3) ∧ Sl v12 1 A4 r1.1.body.length c4 (u8s r1.1.body) ∧ Has v12 (v4.heap.size) 30 (pdA (r1.1) A4 c4) ∧ Sl v12 1 A5 r2.1.length c5 (u8s r2.1) ∧ Sl v12 1 A6 r2.1.length c6 (u8s r2.1) ∧ Sl v12 1 A7 r3.2.1.body.length c7 (u8s r3.2.1.body) ∧ Has v12 (v9.heap.size) 26 (prA (r3.1)) ∧ Has v12 (v9.heap.size + 1) 30 (pdA (r3.2.1) A7 c7) ∧ Sl v12 1 A8 r3.2.1.body.length c8 (u8s r3.2.1.body) ∧ Has v12 (v11.heap.size) 26 (prA (r3.1)) ∧ Has v12 (v11.heap.size + 1) 30 (pdA (r3.2.1) A8 c8) ∧ Below w.heap.size w v12) := Lib.hid ⟨s0.under hbw s0.lt, s1.under hbw s1.lt, s2.under hbw, s3.under hbw s3.lt, s4.under hbw, s5.under hbw s5.lt, s6.under hbw, s7.under hbw, s8.under hbw, s9.under hbw s9.lt, s10.under hbw s10.lt, s11.under hbw, (by rw [← hv12]; exact (has_setRow_other7 (has_setRow7 (Has.beside (Has.made v11 26 #[.int .i64 0, .int .i64 0, .int .u32 0, .int .u32 0, .int .u32 0, .int .u32 0, .int .i64 0, .int .u32 0, .int .u32 0, .int .u32 0, .int .u32 0, .int .u32 0, .int .u32 0, .bool false, .int .u32 0, .int .u32 0]) (.cells #[.int .i64 0, .int .i64 0, .int .i64 0, .int .u32 0, .int .u32 0, .slice none 0 0, .int .u64 0] 30)) (prA (r3.1))) (by omega) (pdA (r3.2.1) A8 c8))), (by rw [← hv12]; exact (has_setRow7 (has_setRow_other7 (show Has ((v11.alloc (.cells #[.int .i64 0, .int .i64 0, .int .u32 0, .int .u32 0, .int .u32 0, .int .u32 0, .int .i64 0, .int .u32 0, .int .u32 0, .int .u32 0, .int .u32 0, .int .u32 0, .int .u32 0, .bool false, .int .u32 0, .int .u32 0] 26)).alloc (.cells #[.int .i64 0, .int .i64 0, .int .i64 0, .int .u32 0, .int .u32 0, .slice none 0 0, .int .u64 0] 30)) (v11.heap.size + 1) 30 #[.int .i64 0, .int .i64 0, .int .i64 0, .int .u32 0, .int .u32 0, .slice none 0 0, .int .u64 0] from has_at (by simp)) (by omega) (prA (r3.1))) (pdA (r3.2.1) A8 c8))), s12.trans (hbw.mono s12.size)⟩
  clear hbw
  have HWv12 := Lib.hid hv12
  clear s0 s1 s2 s3 s4 s5 s6 s7 s8 s9 s10 s11 s12
  clear hv12 HB17
  go_upto_region 11 with (first | (with_reducible refine wpList_store_rowTo (o := ⟨none, _, _, _, _, _⟩) rfl 26 _ _ rfl rfl (v11.heap.size) (prA (r3.1)) rfl rfl 26 _ (HS0.out).raw (by kernel_rfl) (by kernel_rfl) (by kernel_rfl) ?_) | (with_reducible refine wpList_store_rowTo (o := ⟨none, _, _, _, _, _⟩) rfl 30 _ _ rfl rfl (v11.heap.size + 1) (pdA (r3.2.1) A8 c8) rfl rfl 30 _ (HS1.out).raw (by kernel_rfl) (by kernel_rfl) (by kernel_rfl) ?_))
  rw [HWv12.out]
  clear HWv12 HS0 HS1
  obtain ⟨s0, s1, s2, s3, s4, s5, s6, s7, s8, s9, s10, s11, s12, s13, s14⟩ := HB18.out
  have HL0 := Lib.hid s10
  have HL1 := Lib.hid s13
  have HK := Lib.hid (HS2.out A7 A8 c7 c8 v12 s8 s11)
  clear s0 s1 s2 s3 s4 s5 s6 s7 s8 s9 s10 s11 s12 s13 s14
  go_wp2_with (first | (with_reducible refine wpList_load_row (o := ⟨some 86, _, _, _, _, _⟩) rfl 30 _ rfl (v9.heap.size + 1) rfl 30 (pdA (r3.2.1) A7 c7) (0, 0) _ (HL0.out).raw Try.underlying30 rfl (by kernel_rfl) ?_) | (with_reducible refine wpList_load_row (o := ⟨some 87, _, _, _, _, _⟩) rfl 30 _ rfl (v11.heap.size + 1) rfl 30 (pdA (r3.2.1) A8 c8) (0, 0) _ (HL1.out).raw Try.underlying30 rfl (by kernel_rfl) ?_))
  refine HK.out.mono ?_
  rintro e v13 ⟨rfl, hb1⟩
  obtain ⟨s0, s1, s2, s3, s4, s5, s6, s7, s8, s9, s10, s11, s12, s13, s14⟩ := HB18.out
  have hbn : Below v12.heap.size v12 v13 := hb1
  have HB19 : Hid (Has v13 (w.heap.size) 26 (prA p) ∧ Has v13 (w.heap.size + 1) 30 (pdA q A c) ∧ Sl v13 1 A3 r1.1.body.length c3 (u8s r1.1.body) ∧ Has v13 (v2.heap.size) 30 (pdA (r1.1) A3 c3) ∧ Sl v13 1 A4 r1.1.body.length c4 (u8s r1.1.body) ∧ Has v13 (v4.heap.size) 30 (pdA (r1.1) A4 c4) ∧ Sl v13 1 A5 r2.1.length c5 (u8s r2.1) ∧ Sl v13 1 A6 r2.1.length c6 (u8s r2.1) ∧ Sl v13 1 A7 r3.2.1.body.length c7 (u8s r3.2.1.body) ∧ Has v13 (v9.heap.size) 26 (prA (r3.1)) ∧ Has v13 (v9.heap.size + 1) 30 (pdA (r3.2.1) A7 c7) ∧ Sl v13 1 A8 r3.2.1.body.length c8 (u8s r3.2.1.body) ∧ Has v13 (v11.heap.size) 26 (prA (r3.1)) ∧ Has v13 (v11.heap.size + 1) 30 (pdA (r3.2.1) A8 c8) ∧ Below w.heap.size w v13) := Lib.hid ⟨s0.under hbn s0.lt, s1.under hbn s1.lt, s2.under hbn, s3.under hbn s3.lt, s4.under hbn, s5.under hbn s5.lt, s6.under hbn, s7.under hbn, s8.under hbn, s9.under hbn s9.lt, s10.under hbn s10.lt, s11.under hbn, s12.under hbn s12.lt, s13.under hbn s13.lt, s14.trans (hbn.mono s14.size)⟩
  clear s0 s1 s2 s3 s4 s5 s6 s7 s8 s9 s10 s11 s12 s13 s14
  clear HK HB18 HL0 HL1 HS2 hb1
  clear hbn
  obtain ⟨s0, s1, s2, s3, s4, s5, s6, s7, s8, s9, s10, s11, s12, s13, s14⟩ := HB19.out
  have HL0 := Lib.hid s0
  have HL1 := Lib.hid s1
  have HK := Lib.hid (HD1.out v13 (HSL.out _ s14))
  clear s0 s1 s2 s3 s4 s5 s6 s7 s8 s9 s10 s11 s12 s13 s14
  go_wp2_with (first | (with_reducible refine wpList_load_row (o := ⟨some 90, _, _, _, _, _⟩) rfl 26 _ rfl (w.heap.size) rfl 26 (prA p) (0, 0) _ (HL0.out).raw Try.underlying26 rfl (by kernel_rfl) ?_) | (with_reducible refine wpList_load_row (o := ⟨some 91, _, _, _, _, _⟩) rfl 30 _ rfl (w.heap.size + 1) rfl 30 (pdA q A c) (0, 0) _ (HL1.out).raw Try.underlying30 rfl (by kernel_rfl) ?_))
  refine HK.out.mono ?_
  rintro e v14 ⟨rfl, hb1⟩
  obtain ⟨s0, s1, s2, s3, s4, s5, s6, s7, s8, s9, s10, s11, s12, s13, s14⟩ := HB19.out
  have hbn : Below v13.heap.size v13 v14 := hb1
  have HB20 : Hid (Has v14 (w.heap.size) 26 (prA p) ∧ Has v14 (w.heap.size + 1) 30 (pdA q A c) ∧ Sl v14 1 A3 r1.1.body.length c3 (u8s r1.1.body) ∧ Has v14 (v2.heap.size) 30 (pdA (r1.1) A3 c3) ∧ Sl v14 1 A4 r1.1.body.length c4 (u8s r1.1.body) ∧ Has v14 (v4.heap.size) 30 (pdA (r1.1) A4 c4) ∧ Sl v14 1 A5 r2.1.length c5 (u8s r2.1) ∧ Sl v14 1 A6 r2.1.length c6 (u8s r2.1) ∧ Sl v14 1 A7 r3.2.1.body.length c7 (u8s r3.2.1.body) ∧ Has v14 (v9.heap.size) 26 (prA (r3.1)) ∧ Has v14 (v9.heap.size + 1) 30 (pdA (r3.2.1) A7 c7) ∧ Sl v14 1 A8 r3.2.1.body.length c8 (u8s r3.2.1.body) ∧ Has v14 (v11.heap.size) 26 (prA (r3.1)) ∧ Has v14 (v11.heap.size + 1) 30 (pdA (r3.2.1) A8 c8) ∧ Below w.heap.size w v14) := Lib.hid ⟨s0.under hbn s0.lt, s1.under hbn s1.lt, s2.under hbn, s3.under hbn s3.lt, s4.under hbn, s5.under hbn s5.lt, s6.under hbn, s7.under hbn, s8.under hbn, s9.under hbn s9.lt, s10.under hbn s10.lt, s11.under hbn, s12.under hbn s12.lt, s13.under hbn s13.lt, s14.trans (hbn.mono s14.size)⟩
  clear s0 s1 s2 s3 s4 s5 s6 s7 s8 s9 s10 s11 s12 s13 s14
  clear HK HB19 HL0 HL1 HD1 hb1
  clear hbn
  obtain ⟨s0, s1, s2, s3, s4, s5, s6, s7, s8, s9, s10, s11, s12, s13, s14⟩ := HB20.out
  have lt14_20 : v11.heap.size + 1 < v14.heap.size := s13.lt
  have le14_20 : w.heap.size ≤ v14.heap.size := s14.size
  have HS0 : Hid (Has (v14.alloc (.cells #[.int .i64 0, .int .i64 0, .int .u32 0, .int .u32 0, .int .u32 0, .int .u32 0, .int .i64 0, .int .u32 0, .int .u32 0, .int .u32 0, .int .u32 0, .int .u32 0, .int .u32 0, .bool false, .int .u32 0, .int .u32 0] 26)) (v14.heap.size) 26 #[.int .i64 0, .int .i64 0, .int .u32 0, .int .u32 0, .int .u32 0, .int .u32 0, .int .i64 0, .int .u32 0, .int .u32 0, .int .u32 0, .int .u32 0, .int .u32 0, .int .u32 0, .bool false, .int .u32 0, .int .u32 0]) := Lib.hid (Has.made v14 26 #[.int .i64 0, .int .i64 0, .int .u32 0, .int .u32 0, .int .u32 0, .int .u32 0, .int .i64 0, .int .u32 0, .int .u32 0, .int .u32 0, .int .u32 0, .int .u32 0, .int .u32 0, .bool false, .int .u32 0, .int .u32 0])
  obtain ⟨v15, hv15⟩ : ∃ v15, (v14.alloc (.cells #[.int .i64 0, .int .i64 0, .int .u32 0, .int .u32 0, .int .u32 0, .int .u32 0, .int .i64 0, .int .u32 0, .int .u32 0, .int .u32 0, .int .u32 0, .int .u32 0, .int .u32 0, .bool false, .int .u32 0, .int .u32 0] 26)).setRow (v14.heap.size) (prA (r4.1)) = v15 := ⟨_, rfl⟩
  have hbw : Below v14.heap.size v14 v15 := by rw [← hv15]; exact (below_row (g := v14.heap.size) (Below.alloc (Below.refl v14.heap.size v14) (Nat.le_refl _) (.cells #[.int .i64 0, .int .i64 0, .int .u32 0, .int .u32 0, .int .u32 0, .int .u32 0, .int .i64 0, .int .u32 0, .int .u32 0, .int .u32 0, .int .u32 0, .int .u32 0, .int .u32 0, .bool false, .int .u32 0, .int .u32 0] 26)) (by omega) (prA (r4.1)))
  have HB21 : Hid (Has v15 (w.heap.size) 26 (prA p) ∧ Has v15 (w.heap.size + 1) 30 (pdA q A c) ∧ Sl v15 1 A3 r1.1.body.length c3 (u8s r1.1.body) ∧ Has v15 (v2.heap.size) 30 (pdA (r1.1) A3 c3) ∧ Sl v15 1 A4 r1.1.body.length c4 (u8s r1.1.body) ∧ Has v15 (v4.heap.size) 30 (pdA (r1.1) A4 c4) ∧ Sl v15 1 A5 r2.1.length c5 (u8s r2.1) ∧ Sl v15 1 A6 r2.1.length c6 (u8s r2.1) ∧ Sl v15 1 A7 r3.2.1.body.length c7 (u8s r3.2.1.body) ∧ Has v15 (v9.heap.size) 26 (prA (r3.1)) ∧ Has v15 (v9.heap.size + 1) 30 (pdA (r3.2.1) A7 c7) ∧ Sl v15 1 A8 r3.2.1.body.length c8 (u8s r3.2.1.body) ∧ Has v15 (v11.heap.size) 26 (prA (r3.1)) ∧ Has v15 (v11.heap.size + 1) 30 (pdA (r3.2.1) A8 c8) ∧ Has v15 (v14.heap.size) 26 (prA (r4.1)) ∧ Below w.heap.size w v15) := Lib.hid ⟨s0.under hbw s0.lt, s1.under hbw s1.lt, s2.under hbw, s3.under hbw s3.lt, s4.under hbw, s5.under hbw s5.lt, s6.under hbw, s7.under hbw, s8.under hbw, s9.under hbw s9.lt, s10.under hbw s10.lt, s11.under hbw, s12.under hbw s12.lt, s13.under hbw s13.lt, (by rw [← hv15]; exact (has_setRow7 (Has.made v14 26 #[.int .i64 0, .int .i64 0, .int .u32 0, .int .u32 0, .int .u32 0, .int .u32 0, .int .i64 0, .int .u32 0, .int .u32 0, .int .u32 0, .int .u32 0, .int .u32 0, .int .u32 0, .bool false, .int .u32 0, .int .u32 0]) (prA (r4.1)))), s14.trans (hbw.mono s14.size)⟩
  clear hbw
  have HWv15 := Lib.hid hv15
  clear s0 s1 s2 s3 s4 s5 s6 s7 s8 s9 s10 s11 s12 s13 s14
  clear hv15 HB20
  go_upto_region 13 with (first | (with_reducible refine wpList_store_rowTo (o := ⟨none, _, _, _, _, _⟩) rfl 26 _ _ rfl rfl (v14.heap.size) (prA (r4.1)) rfl rfl 26 _ (HS0.out).raw (by kernel_rfl) (by kernel_rfl) (by kernel_rfl) ?_))
  rw [HWv15.out]
  clear HWv15 HS0
  obtain ⟨s0, s1, s2, s3, s4, s5, s6, s7, s8, s9, s10, s11, s12, s13, s14, s15⟩ := HB21.out
  have HL0 := Lib.hid s0
  have HL1 := Lib.hid s1
  have HK := Lib.hid (HD2.out v15 (HSL.out _ s15))
  clear s0 s1 s2 s3 s4 s5 s6 s7 s8 s9 s10 s11 s12 s13 s14 s15
  go_wp2_with (first | (with_reducible refine wpList_load_row (o := ⟨some 96, _, _, _, _, _⟩) rfl 26 _ rfl (w.heap.size) rfl 26 (prA p) (0, 0) _ (HL0.out).raw Try.underlying26 rfl (by kernel_rfl) ?_) | (with_reducible refine wpList_load_row (o := ⟨some 97, _, _, _, _, _⟩) rfl 30 _ rfl (w.heap.size + 1) rfl 30 (pdA q A c) (0, 0) _ (HL1.out).raw Try.underlying30 rfl (by kernel_rfl) ?_))
  refine HK.out.mono ?_
  rintro e v16 ⟨rfl, hb1⟩
  obtain ⟨s0, s1, s2, s3, s4, s5, s6, s7, s8, s9, s10, s11, s12, s13, s14, s15⟩ := HB21.out
  have hbn : Below v15.heap.size v15 v16 := hb1
  have HB22 : Hid (Has v16 (w.heap.size) 26 (prA p) ∧ Has v16 (w.heap.size + 1) 30 (pdA q A c) ∧ Sl v16 1 A3 r1.1.body.length c3 (u8s r1.1.body) ∧ Has v16 (v2.heap.size) 30 (pdA (r1.1) A3 c3) ∧ Sl v16 1 A4 r1.1.body.length c4 (u8s r1.1.body) ∧ Has v16 (v4.heap.size) 30 (pdA (r1.1) A4 c4) ∧ Sl v16 1 A5 r2.1.length c5 (u8s r2.1) ∧ Sl v16 1 A6 r2.1.length c6 (u8s r2.1) ∧ Sl v16 1 A7 r3.2.1.body.length c7 (u8s r3.2.1.body) ∧ Has v16 (v9.heap.size) 26 (prA (r3.1)) ∧ Has v16 (v9.heap.size + 1) 30 (pdA (r3.2.1) A7 c7) ∧ Sl v16 1 A8 r3.2.1.body.length c8 (u8s r3.2.1.body) ∧ Has v16 (v11.heap.size) 26 (prA (r3.1)) ∧ Has v16 (v11.heap.size + 1) 30 (pdA (r3.2.1) A8 c8) ∧ Has v16 (v14.heap.size) 26 (prA (r4.1)) ∧ Below w.heap.size w v16) := Lib.hid ⟨s0.under hbn s0.lt, s1.under hbn s1.lt, s2.under hbn, s3.under hbn s3.lt, s4.under hbn, s5.under hbn s5.lt, s6.under hbn, s7.under hbn, s8.under hbn, s9.under hbn s9.lt, s10.under hbn s10.lt, s11.under hbn, s12.under hbn s12.lt, s13.under hbn s13.lt, s14.under hbn s14.lt, s15.trans (hbn.mono s15.size)⟩
  clear s0 s1 s2 s3 s4 s5 s6 s7 s8 s9 s10 s11 s12 s13 s14 s15
  clear HK HB21 HL0 HL1 HD2 hb1
  clear hbn
  obtain ⟨s0, s1, s2, s3, s4, s5, s6, s7, s8, s9, s10, s11, s12, s13, s14, s15⟩ := HB22.out
  have lt16_22 : v14.heap.size < v16.heap.size := s14.lt
  have le16_22 : w.heap.size ≤ v16.heap.size := s15.size
  have HS0 : Hid (Has (v16.alloc (.cells #[.int .i64 0, .int .i64 0, .int .u32 0, .int .u32 0, .int .u32 0, .int .u32 0, .int .i64 0, .int .u32 0, .int .u32 0, .int .u32 0, .int .u32 0, .int .u32 0, .int .u32 0, .bool false, .int .u32 0, .int .u32 0] 26)) (v16.heap.size) 26 #[.int .i64 0, .int .i64 0, .int .u32 0, .int .u32 0, .int .u32 0, .int .u32 0, .int .i64 0, .int .u32 0, .int .u32 0, .int .u32 0, .int .u32 0, .int .u32 0, .int .u32 0, .bool false, .int .u32 0, .int .u32 0]) := Lib.hid (Has.made v16 26 #[.int .i64 0, .int .i64 0, .int .u32 0, .int .u32 0, .int .u32 0, .int .u32 0, .int .i64 0, .int .u32 0, .int .u32 0, .int .u32 0, .int .u32 0, .int .u32 0, .int .u32 0, .bool false, .int .u32 0, .int .u32 0])
  obtain ⟨v17, hv17⟩ : ∃ v17, (v16.alloc (.cells #[.int .i64 0, .int .i64 0, .int .u32 0, .int .u32 0, .int .u32 0, .int .u32 0, .int .i64 0, .int .u32 0, .int .u32 0, .int .u32 0, .int .u32 0, .int .u32 0, .int .u32 0, .bool false, .int .u32 0, .int .u32 0] 26)).setRow (v16.heap.size) (prA (r4.1)) = v17 := ⟨_, rfl⟩
  have hbw : Below v16.heap.size v16 v17 := by rw [← hv17]; exact (below_row (g := v16.heap.size) (Below.alloc (Below.refl v16.heap.size v16) (Nat.le_refl _) (.cells #[.int .i64 0, .int .i64 0, .int .u32 0, .int .u32 0, .int .u32 0, .int .u32 0, .int .i64 0, .int .u32 0, .int .u32 0, .int .u32 0, .int .u32 0, .int .u32 0, .int .u32 0, .bool false, .int .u32 0, .int .u32 0] 26)) (by omega) (prA (r4.1)))
  have HB23 : Hid (Has v17 (w.heap.size) 26 (prA p) ∧ Has v17 (w.heap.size + 1) 30 (pdA q A c) ∧ Sl v17 1 A3 r1.1.body.length c3 (u8s r1.1.body) ∧ Has v17 (v2.heap.size) 30 (pdA (r1.1) A3 c3) ∧ Sl v17 1 A4 r1.1.body.length c4 (u8s r1.1.body) ∧ Has v17 (v4.heap.size) 30 (pdA (r1.1) A4 c4) ∧ Sl v17 1 A5 r2.1.length c5 (u8s r2.1) ∧ Sl v17 1 A6 r2.1.length c6 (u8s r2.1) ∧ Sl v17 1 A7 r3.2.1.body.length c7 (u8s r3.2.1.body) ∧ Has v17 (v9.heap.size) 26 (prA (r3.1)) ∧ Has v17 (v9.heap.size + 1) 30 (pdA (r3.2.1) A7 c7) ∧ Sl v17 1 A8 r3.2.1.body.length c8 (u8s r3.2.1.body) ∧ Has v17 (v11.heap.size) 26 (prA (r3.1)) ∧ Has v17 (v11.heap.size + 1) 30 (pdA (r3.2.1) A8 c8) ∧ Has v17 (v14.heap.size) 26 (prA (r4.1)) ∧ Has v17 (v16.heap.size) 26 (prA (r4.1)) ∧ Below w.heap.size w v17) := Lib.hid ⟨s0.under hbw s0.lt, s1.under hbw s1.lt, s2.under hbw, s3.under hbw s3.lt, s4.under hbw, s5.under hbw s5.lt, s6.under hbw, s7.under hbw, s8.under hbw, s9.under hbw s9.lt, s10.under hbw s10.lt, s11.under hbw, s12.under hbw s12.lt, s13.under hbw s13.lt, s14.under hbw s14.lt, (by rw [← hv17]; exact (has_setRow7 (Has.made v16 26 #[.int .i64 0, .int .i64 0, .int .u32 0, .int .u32 0, .int .u32 0, .int .u32 0, .int .i64 0, .int .u32 0, .int .u32 0, .int .u32 0, .int .u32 0, .int .u32 0, .int .u32 0, .bool false, .int .u32 0, .int .u32 0]) (prA (r4.1)))), s15.trans (hbw.mono s15.size)⟩
  clear hbw
  have HWv17 := Lib.hid hv17
  clear s0 s1 s2 s3 s4 s5 s6 s7 s8 s9 s10 s11 s12 s13 s14 s15
  clear hv17 HB22
  go_upto_region 14 with (first | (with_reducible refine wpList_store_rowTo (o := ⟨none, _, _, _, _, _⟩) rfl 26 _ _ rfl rfl (v16.heap.size) (prA (r4.1)) rfl rfl 26 _ (HS0.out).raw (by kernel_rfl) (by kernel_rfl) (by kernel_rfl) ?_))
  rw [HWv17.out]
  clear HWv17 HS0
  obtain ⟨s0, s1, s2, s3, s4, s5, s6, s7, s8, s9, s10, s11, s12, s13, s14, s15, s16⟩ := HB23.out
  have hv1 := conv8 A5 c5 r2.1 v17 (sl_at8 s6)
  have hv2 := conv8 A6 c6 r2.1 v17 (sl_at8 s7)
  clear s0 s1 s2 s3 s4 s5 s6 s7 s8 s9 s10 s11 s12 s13 s14 s15 s16
  have hse : ((str8 r2.1).toList == (str8 r2.1).toList) = true := by simp
  generalize str8 r2.1 = S at *
  clear HSL HSX
  obtain ⟨s0, s1, s2, s3, s4, s5, s6, s7, s8, s9, s10, s11, s12, s13, s14, s15, s16⟩ := HB23.out
  have HL0 := Lib.hid s9
  have HL1 := Lib.hid s12
  have HL2 := Lib.hid s14
  have HL3 := Lib.hid s15
  have HBF := Lib.hid s16
  clear s0 s1 s2 s3 s4 s5 s6 s7 s8 s9 s10 s11 s12 s13 s14 s15 s16
  have HE0 := Lib.hid (eql_peer9 (r3.1) v17)
  have HE1 := Lib.hid (eql_peer9 (r4.1) v17)
  clear HB23
  go_wp2_with (first | ((with_reducible refine at_slot9 123 ?_); refine wpList_load_rowW9 (o := ⟨some 123, _, _, _, _, _⟩) 26 _ rfl (by kernel_rfl) (v9.heap.size) rfl 26 (prA (r3.1)) (0, 0) _ (HL0.out).raw Try.underlying26 rfl (by kernel_rfl) ?_) | ((with_reducible refine at_slot9 124 ?_); refine wpList_load_rowW9 (o := ⟨some 124, _, _, _, _, _⟩) 26 _ rfl (by kernel_rfl) (v11.heap.size) rfl 26 (prA (r3.1)) (0, 0) _ (HL1.out).raw Try.underlying26 rfl (by kernel_rfl) ?_) | ((with_reducible refine at_slot9 133 ?_); refine wpList_load_rowW9 (o := ⟨some 133, _, _, _, _, _⟩) 26 _ rfl (by kernel_rfl) (v14.heap.size) rfl 26 (prA (r4.1)) (0, 0) _ (HL2.out).raw Try.underlying26 rfl (by kernel_rfl) ?_) | ((with_reducible refine at_slot9 134 ?_); refine wpList_load_rowW9 (o := ⟨some 134, _, _, _, _, _⟩) 26 _ rfl (by kernel_rfl) (v16.heap.size) rfl 26 (prA (r4.1)) (0, 0) _ (HL3.out).raw Try.underlying26 rfl (by kernel_rfl) ?_) | ((with_reducible refine at_slot9 125 ?_); refine wpList_aggCmp9 (o := ⟨some 125, _, _, _, _, _⟩) .eql 26 _ _ _ rfl (by kernel_rfl) _ _ rfl rfl peer_plain9 _ HE0.out ?_) | ((with_reducible refine at_slot9 135 ?_); refine wpList_aggCmp9 (o := ⟨some 135, _, _, _, _, _⟩) .eql 26 _ _ _ rfl (by kernel_rfl) _ _ rfl rfl peer_plain9 _ HE1.out ?_))
  go_ret
  exact ⟨by simp, HBF.out⟩
end Go.Proofs.Ytekcnmimfhiblaa
