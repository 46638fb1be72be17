/-
  linesidelaw10.ShakeMakes, walked.
-/
import Derived.Test.YtekcnmimfhiblaaShEqs
import Derived.Deep.DeepCutAuto
namespace Go.Proofs.Ytekcnmimfhiblaa
open Go.RowKit
open Go.Great

set_option maxRecDepth 100000 in
set_option maxHeartbeats 40000000 in
theorem shakeMakes_at (p : Peer) (q : Pdu) (A : Option Addr) (c n : Nat) (w : World) (hpo : p.ok) (hk : q.ok) (hm : q.body.length ≤ maxLen) (hs : Sl w 1 A q.body.length c (u8s q.body)) (hn : n < 4294967296) :
    Calls Try.prog 3 #[prV p, pdV q A c, .int .u32 (n : Nat)] w fun e w' => e = .returned (.bool true) ∧ Below w.heap.size w w' := by
  unfold maxLen at hm
  obtain ⟨wa, hwa⟩ : ∃ wa, (w.alloc (.cells (prA p) 26)).alloc (.cells (pdA q A c) 30) = wa := ⟨_, rfl⟩
  have hbwa : Below w.heap.size w wa := by rw [← hwa]; exact ((Below.refl _ _).alloc (Nat.le_refl _) _).alloc (by simp) _
  have h0 : Has wa (w.heap.size) 26 (prA p) := by rw [← hwa]; exact ((Has.made _ _ _).beside _)
  have h1 : Has wa (w.heap.size + 1) 30 (pdA q A c) := by rw [← hwa]; exact (has_at (by simp))
  have HWA := Lib.hid hwa; have HBWA := Lib.hid hbwa
  have HSL := Lib.hid (fun W (hW : Below w.heap.size w W) => Sl.under hs hW)
  have HB0 : Hid (Has wa (w.heap.size) 26 (prA p) ∧ Has wa (w.heap.size + 1) 30 (pdA q A c) ∧ Below w.heap.size w wa) := Lib.hid ⟨h0, h1, hbwa⟩
  have HAW := Lib.hid (awake10_any wa)
  clear hwa hbwa h0 h1 hs HBWA
  unfold prV pdV at *
  go_enter Try.func3, Try.ntmps3
  go_upto_region 1 with fail
  rw [HWA.out]
  clear HWA
  obtain ⟨s0, s1, s2⟩ := HB0.out
  have HK := Lib.hid (HAW.out)
  clear s0 s1 s2
  go_wp2_with fail
  refine HK.out.mono ?_
  rintro e v1 ⟨rfl, hb1⟩
  obtain ⟨s0, s1, s2⟩ := HB0.out
  have hbn : Below wa.heap.size wa v1 := hb1
  have HB1 : Hid (Has v1 (w.heap.size) 26 (prA p) ∧ Has v1 (w.heap.size + 1) 30 (pdA q A c) ∧ Below w.heap.size w v1) := Lib.hid ⟨s0.under hbn s0.lt, s1.under hbn s1.lt, s2.trans (hbn.mono s2.size)⟩
  clear s0 s1 s2
  clear HK HB0 HAW hb1
  clear hbn
  have c5 : v1.cell? ⟨w.heap.size + 1, 5, none⟩ = some (.slice A q.body.length c) := HB1.out.2.1.cell 5
  by_cases hgo : q.body.length ≤ 2000
  rotate_left
  · have x1 : (2000 : Int) < (q.body.length : Int) := by omega
    have HBF := Lib.hid HB1.out.2.2
    clear HB1 HSL hgo
    go_wp2
    go_ret
    exact ⟨rfl, HBF.out⟩
  have x1 : ¬ (2000 : Int) < (q.body.length : Int) := by omega
  have hA1 := fun W => osh_ask p n hpo hn W
  have hA2 := fun W => ref_ask p n W
  have hB1 := fun W hs => osh_answer p q A c n hpo hk hgo hn W hs
  have hB2 := fun W => ref_answer p q A c n hpo hk hgo hn W
  have hC1 := fun W hs => osh_confirm p q A c hpo hk hgo W hs
  have hC2 := fun W hs => ref_confirm p q A c hpo hk hgo W hs
  have hD1 := fun W hs => osh_done p q A c hpo hk hgo W hs
  have hD2 := fun W hs => ref_done p q A c hpo hk hgo W hs
  have hS1 := fun W => same_none9 _ (ask_body p n) W
  have hS2 := fun W => same_none9 _ (ans_body p q n) W
  have hS3 := fun W => same_none9 _ (con_body p q) W
  unfold ShPost3 prV pdV at hA1 hA2 hB1 hB2 hC1 hC2
  unfold ShPost2 prV pdV at hD1 hD2
  unfold pdV at hS1 hS2 hS3
  generalize shAsk p n = r1 at hA1 hA2 hS1
  generalize shAnswer p q n = r2 at hB1 hB2 hS2
  generalize shConfirm p q = r3 at hC1 hC2 hS3
  generalize shDone p q = r4 at hD1 hD2
  have HA1 := Lib.hid hA1; have HA2 := Lib.hid hA2; have HB1' := Lib.hid hB1; have HB2' := Lib.hid hB2; have HC1 := Lib.hid hC1; have HC2 := Lib.hid hC2; have HD1 := Lib.hid hD1; have HD2 := Lib.hid hD2
  have HS1 := Lib.hid hS1; have HS2 := Lib.hid hS2; have HS3 := Lib.hid hS3
  clear hA1 hA2 hB1 hB2 hC1 hC2 hD1 hD2 hS1 hS2 hS3 hpo hk hn hm
  obtain ⟨s0, s1, s2⟩ := HB1.out
  have HL0 := Lib.hid s0
  have HK := Lib.hid (HA1.out v1)
  clear s0 s1 s2
  go_wp2_with (first | (with_reducible refine wpList_load_row (o := ⟨some 44, _, _, _, _, _⟩) rfl 26 _ rfl (w.heap.size) rfl 26 (prA p) (0, 0) _ (HL0.out).raw Try.underlying26 rfl (by kernel_rfl) ?_))
  refine HK.out.mono ?_
  rintro e v2 ⟨rfl, hb1⟩
  obtain ⟨s0, s1, s2⟩ := HB1.out
  have hbn : Below v1.heap.size v1 v2 := hb1
  have HB2 : Hid (Has v2 (w.heap.size) 26 (prA p) ∧ Has v2 (w.heap.size + 1) 30 (pdA q A c) ∧ Below w.heap.size w v2) := Lib.hid ⟨s0.under hbn s0.lt, s1.under hbn s1.lt, s2.trans (hbn.mono s2.size)⟩
  clear s0 s1 s2
  clear HK HB1 HL0 HA1 hb1 c5 x1
  clear hbn
  obtain ⟨s0, s1, s2⟩ := HB2.out
  have lt2_2 : w.heap.size + 1 < v2.heap.size := s1.lt
  have le2_2 : w.heap.size ≤ v2.heap.size := s2.size
  have HS0 : Hid (Has ((v2.alloc (.cells #[.int .i64 0, .int .i64 0, .int .u32 0, .int .u32 0, .int .u32 0, .int .u32 0, .int .i64 0, .int .u32 0, .int .u32 0, .int .u32 0, .int .u32 0, .int .u32 0, .int .u32 0, .bool false, .int .u32 0, .int .u32 0] 26)).alloc (.cells #[.int .i64 0, .int .i64 0, .int .i64 0, .int .u32 0, .int .u32 0, .slice none 0 0, .int .u64 0] 30)) (v2.heap.size) 26 #[.int .i64 0, .int .i64 0, .int .u32 0, .int .u32 0, .int .u32 0, .int .u32 0, .int .i64 0, .int .u32 0, .int .u32 0, .int .u32 0, .int .u32 0, .int .u32 0, .int .u32 0, .bool false, .int .u32 0, .int .u32 0]) := Lib.hid (Has.beside (Has.made v2 26 #[.int .i64 0, .int .i64 0, .int .u32 0, .int .u32 0, .int .u32 0, .int .u32 0, .int .i64 0, .int .u32 0, .int .u32 0, .int .u32 0, .int .u32 0, .int .u32 0, .int .u32 0, .bool false, .int .u32 0, .int .u32 0]) (.cells #[.int .i64 0, .int .i64 0, .int .i64 0, .int .u32 0, .int .u32 0, .slice none 0 0, .int .u64 0] 30))
  have HS1 : Hid (Has (((v2.alloc (.cells #[.int .i64 0, .int .i64 0, .int .u32 0, .int .u32 0, .int .u32 0, .int .u32 0, .int .i64 0, .int .u32 0, .int .u32 0, .int .u32 0, .int .u32 0, .int .u32 0, .int .u32 0, .bool false, .int .u32 0, .int .u32 0] 26)).alloc (.cells #[.int .i64 0, .int .i64 0, .int .i64 0, .int .u32 0, .int .u32 0, .slice none 0 0, .int .u64 0] 30)).setRow (v2.heap.size) (prA (r1.1))) (v2.heap.size + 1) 30 #[.int .i64 0, .int .i64 0, .int .i64 0, .int .u32 0, .int .u32 0, .slice none 0 0, .int .u64 0]) := Lib.hid (has_setRow_other7 (show Has ((v2.alloc (.cells #[.int .i64 0, .int .i64 0, .int .u32 0, .int .u32 0, .int .u32 0, .int .u32 0, .int .i64 0, .int .u32 0, .int .u32 0, .int .u32 0, .int .u32 0, .int .u32 0, .int .u32 0, .bool false, .int .u32 0, .int .u32 0] 26)).alloc (.cells #[.int .i64 0, .int .i64 0, .int .i64 0, .int .u32 0, .int .u32 0, .slice none 0 0, .int .u64 0] 30)) (v2.heap.size + 1) 30 #[.int .i64 0, .int .i64 0, .int .i64 0, .int .u32 0, .int .u32 0, .slice none 0 0, .int .u64 0] from has_at (by simp)) (by omega) (prA (r1.1)))
  obtain ⟨v3, hv3⟩ : ∃ v3, (((v2.alloc (.cells #[.int .i64 0, .int .i64 0, .int .u32 0, .int .u32 0, .int .u32 0, .int .u32 0, .int .i64 0, .int .u32 0, .int .u32 0, .int .u32 0, .int .u32 0, .int .u32 0, .int .u32 0, .bool false, .int .u32 0, .int .u32 0] 26)).alloc (.cells #[.int .i64 0, .int .i64 0, .int .i64 0, .int .u32 0, .int .u32 0, .slice none 0 0, .int .u64 0] 30)).setRow (v2.heap.size) (prA (r1.1))).setRow (v2.heap.size + 1) (pdA (r1.2.1) none 0) = v3 := ⟨_, rfl⟩
  have hbw : Below v2.heap.size v2 v3 := by rw [← hv3]; exact (below_row (g := v2.heap.size + 1) (below_row (g := v2.heap.size) (Below.alloc (Below.alloc (Below.refl v2.heap.size v2) (Nat.le_refl _) (.cells #[.int .i64 0, .int .i64 0, .int .u32 0, .int .u32 0, .int .u32 0, .int .u32 0, .int .i64 0, .int .u32 0, .int .u32 0, .int .u32 0, .int .u32 0, .int .u32 0, .int .u32 0, .bool false, .int .u32 0, .int .u32 0] 26)) (by simp) (.cells #[.int .i64 0, .int .i64 0, .int .i64 0, .int .u32 0, .int .u32 0, .slice none 0 0, .int .u64 0] 30)) (by omega) (prA (r1.1))) (by omega) (pdA (r1.2.1) none 0))
  have HB3 : Hid (Has v3 (w.heap.size) 26 (prA p) ∧ Has v3 (w.heap.size + 1) 30 (pdA q A c) ∧ Has v3 (v2.heap.size) 26 (prA (r1.1)) ∧ Has v3 (v2.heap.size + 1) 30 (pdA (r1.2.1) none 0) ∧ Below w.heap.size w v3) := Lib.hid ⟨s0.under hbw s0.lt, s1.under hbw s1.lt, (by rw [← hv3]; exact (has_setRow_other7 (has_setRow7 (Has.beside (Has.made v2 26 #[.int .i64 0, .int .i64 0, .int .u32 0, .int .u32 0, .int .u32 0, .int .u32 0, .int .i64 0, .int .u32 0, .int .u32 0, .int .u32 0, .int .u32 0, .int .u32 0, .int .u32 0, .bool false, .int .u32 0, .int .u32 0]) (.cells #[.int .i64 0, .int .i64 0, .int .i64 0, .int .u32 0, .int .u32 0, .slice none 0 0, .int .u64 0] 30)) (prA (r1.1))) (by omega) (pdA (r1.2.1) none 0))), (by rw [← hv3]; exact (has_setRow7 (has_setRow_other7 (show Has ((v2.alloc (.cells #[.int .i64 0, .int .i64 0, .int .u32 0, .int .u32 0, .int .u32 0, .int .u32 0, .int .i64 0, .int .u32 0, .int .u32 0, .int .u32 0, .int .u32 0, .int .u32 0, .int .u32 0, .bool false, .int .u32 0, .int .u32 0] 26)).alloc (.cells #[.int .i64 0, .int .i64 0, .int .i64 0, .int .u32 0, .int .u32 0, .slice none 0 0, .int .u64 0] 30)) (v2.heap.size + 1) 30 #[.int .i64 0, .int .i64 0, .int .i64 0, .int .u32 0, .int .u32 0, .slice none 0 0, .int .u64 0] from has_at (by simp)) (by omega) (prA (r1.1))) (pdA (r1.2.1) none 0))), s2.trans (hbw.mono s2.size)⟩
  clear hbw
  have HWv3 := Lib.hid hv3
  clear s0 s1 s2
  clear hv3 HB2
  go_upto_region 5 with (first | (with_reducible refine wpList_store_rowTo (o := ⟨none, _, _, _, _, _⟩) rfl 26 _ _ rfl rfl (v2.heap.size) (prA (r1.1)) rfl rfl 26 _ (HS0.out).raw (by kernel_rfl) (by kernel_rfl) (by kernel_rfl) ?_) | (with_reducible refine wpList_store_rowTo (o := ⟨none, _, _, _, _, _⟩) rfl 30 _ _ rfl rfl (v2.heap.size + 1) (pdA (r1.2.1) none 0) rfl rfl 30 _ (HS1.out).raw (by kernel_rfl) (by kernel_rfl) (by kernel_rfl) ?_))
  rw [HWv3.out]
  clear HWv3 HS0 HS1
  obtain ⟨s0, s1, s2, s3, s4⟩ := HB3.out
  have HL0 := Lib.hid s0
  have HK := Lib.hid (HA2.out v3)
  clear s0 s1 s2 s3 s4
  go_wp2_with (first | (with_reducible refine wpList_load_row (o := ⟨some 51, _, _, _, _, _⟩) rfl 26 _ rfl (w.heap.size) rfl 26 (prA p) (0, 0) _ (HL0.out).raw Try.underlying26 rfl (by kernel_rfl) ?_))
  refine HK.out.mono ?_
  rintro e v4 ⟨rfl, hb1⟩
  obtain ⟨s0, s1, s2, s3, s4⟩ := HB3.out
  have hbn : Below v3.heap.size v3 v4 := hb1
  have HB4 : Hid (Has v4 (w.heap.size) 26 (prA p) ∧ Has v4 (w.heap.size + 1) 30 (pdA q A c) ∧ Has v4 (v2.heap.size) 26 (prA (r1.1)) ∧ Has v4 (v2.heap.size + 1) 30 (pdA (r1.2.1) none 0) ∧ Below w.heap.size w v4) := Lib.hid ⟨s0.under hbn s0.lt, s1.under hbn s1.lt, s2.under hbn s2.lt, s3.under hbn s3.lt, s4.trans (hbn.mono s4.size)⟩
  clear s0 s1 s2 s3 s4
  clear HK HB3 HL0 HA2 hb1
  clear hbn
  obtain ⟨s0, s1, s2, s3, s4⟩ := HB4.out
  have lt4_4 : v2.heap.size + 1 < v4.heap.size := s3.lt
  have le4_4 : w.heap.size ≤ v4.heap.size := s4.size
  have HS0 : Hid (Has ((v4.alloc (.cells #[.int .i64 0, .int .i64 0, .int .u32 0, .int .u32 0, .int .u32 0, .int .u32 0, .int .i64 0, .int .u32 0, .int .u32 0, .int .u32 0, .int .u32 0, .int .u32 0, .int .u32 0, .bool false, .int .u32 0, .int .u32 0] 26)).alloc (.cells #[.int .i64 0, .int .i64 0, .int .i64 0, .int .u32 0, .int .u32 0, .slice none 0 0, .int .u64 0] 30)) (v4.heap.size) 26 #[.int .i64 0, .int .i64 0, .int .u32 0, .int .u32 0, .int .u32 0, .int .u32 0, .int .i64 0, .int .u32 0, .int .u32 0, .int .u32 0, .int .u32 0, .int .u32 0, .int .u32 0, .bool false, .int .u32 0, .int .u32 0]) := Lib.hid (Has.beside (Has.made v4 26 #[.int .i64 0, .int .i64 0, .int .u32 0, .int .u32 0, .int .u32 0, .int .u32 0, .int .i64 0, .int .u32 0, .int .u32 0, .int .u32 0, .int .u32 0, .int .u32 0, .int .u32 0, .bool false, .int .u32 0, .int .u32 0]) (.cells #[.int .i64 0, .int .i64 0, .int .i64 0, .int .u32 0, .int .u32 0, .slice none 0 0, .int .u64 0] 30))
  have HS1 : Hid (Has (((v4.alloc (.cells #[.int .i64 0, .int .i64 0, .int .u32 0, .int .u32 0, .int .u32 0, .int .u32 0, .int .i64 0, .int .u32 0, .int .u32 0, .int .u32 0, .int .u32 0, .int .u32 0, .int .u32 0, .bool false, .int .u32 0, .int .u32 0] 26)).alloc (.cells #[.int .i64 0, .int .i64 0, .int .i64 0, .int .u32 0, .int .u32 0, .slice none 0 0, .int .u64 0] 30)).setRow (v4.heap.size) (prA (r1.1))) (v4.heap.size + 1) 30 #[.int .i64 0, .int .i64 0, .int .i64 0, .int .u32 0, .int .u32 0, .slice none 0 0, .int .u64 0]) := Lib.hid (has_setRow_other7 (show Has ((v4.alloc (.cells #[.int .i64 0, .int .i64 0, .int .u32 0, .int .u32 0, .int .u32 0, .int .u32 0, .int .i64 0, .int .u32 0, .int .u32 0, .int .u32 0, .int .u32 0, .int .u32 0, .int .u32 0, .bool false, .int .u32 0, .int .u32 0] 26)).alloc (.cells #[.int .i64 0, .int .i64 0, .int .i64 0, .int .u32 0, .int .u32 0, .slice none 0 0, .int .u64 0] 30)) (v4.heap.size + 1) 30 #[.int .i64 0, .int .i64 0, .int .i64 0, .int .u32 0, .int .u32 0, .slice none 0 0, .int .u64 0] from has_at (by simp)) (by omega) (prA (r1.1)))
  obtain ⟨v5, hv5⟩ : ∃ v5, (((v4.alloc (.cells #[.int .i64 0, .int .i64 0, .int .u32 0, .int .u32 0, .int .u32 0, .int .u32 0, .int .i64 0, .int .u32 0, .int .u32 0, .int .u32 0, .int .u32 0, .int .u32 0, .int .u32 0, .bool false, .int .u32 0, .int .u32 0] 26)).alloc (.cells #[.int .i64 0, .int .i64 0, .int .i64 0, .int .u32 0, .int .u32 0, .slice none 0 0, .int .u64 0] 30)).setRow (v4.heap.size) (prA (r1.1))).setRow (v4.heap.size + 1) (pdA (r1.2.1) none 0) = v5 := ⟨_, rfl⟩
  have hbw : Below v4.heap.size v4 v5 := by rw [← hv5]; exact (below_row (g := v4.heap.size + 1) (below_row (g := v4.heap.size) (Below.alloc (Below.alloc (Below.refl v4.heap.size v4) (Nat.le_refl _) (.cells #[.int .i64 0, .int .i64 0, .int .u32 0, .int .u32 0, .int .u32 0, .int .u32 0, .int .i64 0, .int .u32 0, .int .u32 0, .int .u32 0, .int .u32 0, .int .u32 0, .int .u32 0, .bool false, .int .u32 0, .int .u32 0] 26)) (by simp) (.cells #[.int .i64 0, .int .i64 0, .int .i64 0, .int .u32 0, .int .u32 0, .slice none 0 0, .int .u64 0] 30)) (by omega) (prA (r1.1))) (by omega) (pdA (r1.2.1) none 0))
  have HB5 : Hid (Has v5 (w.heap.size) 26 (prA p) ∧ Has v5 (w.heap.size + 1) 30 (pdA q A c) ∧ Has v5 (v2.heap.size) 26 (prA (r1.1)) ∧ Has v5 (v2.heap.size + 1) 30 (pdA (r1.2.1) none 0) ∧ Has v5 (v4.heap.size) 26 (prA (r1.1)) ∧ Has v5 (v4.heap.size + 1) 30 (pdA (r1.2.1) none 0) ∧ Below w.heap.size w v5) := Lib.hid ⟨s0.under hbw s0.lt, s1.under hbw s1.lt, s2.under hbw s2.lt, s3.under hbw s3.lt, (by rw [← hv5]; exact (has_setRow_other7 (has_setRow7 (Has.beside (Has.made v4 26 #[.int .i64 0, .int .i64 0, .int .u32 0, .int .u32 0, .int .u32 0, .int .u32 0, .int .i64 0, .int .u32 0, .int .u32 0, .int .u32 0, .int .u32 0, .int .u32 0, .int .u32 0, .bool false, .int .u32 0, .int .u32 0]) (.cells #[.int .i64 0, .int .i64 0, .int .i64 0, .int .u32 0, .int .u32 0, .slice none 0 0, .int .u64 0] 30)) (prA (r1.1))) (by omega) (pdA (r1.2.1) none 0))), (by rw [← hv5]; exact (has_setRow7 (has_setRow_other7 (show Has ((v4.alloc (.cells #[.int .i64 0, .int .i64 0, .int .u32 0, .int .u32 0, .int .u32 0, .int .u32 0, .int .i64 0, .int .u32 0, .int .u32 0, .int .u32 0, .int .u32 0, .int .u32 0, .int .u32 0, .bool false, .int .u32 0, .int .u32 0] 26)).alloc (.cells #[.int .i64 0, .int .i64 0, .int .i64 0, .int .u32 0, .int .u32 0, .slice none 0 0, .int .u64 0] 30)) (v4.heap.size + 1) 30 #[.int .i64 0, .int .i64 0, .int .i64 0, .int .u32 0, .int .u32 0, .slice none 0 0, .int .u64 0] from has_at (by simp)) (by omega) (prA (r1.1))) (pdA (r1.2.1) none 0))), s4.trans (hbw.mono s4.size)⟩
  clear hbw
  have HWv5 := Lib.hid hv5
  clear s0 s1 s2 s3 s4
  clear hv5 HB4
  go_upto_region 6 with (first | (with_reducible refine wpList_store_rowTo (o := ⟨none, _, _, _, _, _⟩) rfl 26 _ _ rfl rfl (v4.heap.size) (prA (r1.1)) rfl rfl 26 _ (HS0.out).raw (by kernel_rfl) (by kernel_rfl) (by kernel_rfl) ?_) | (with_reducible refine wpList_store_rowTo (o := ⟨none, _, _, _, _, _⟩) rfl 30 _ _ rfl rfl (v4.heap.size + 1) (pdA (r1.2.1) none 0) rfl rfl 30 _ (HS1.out).raw (by kernel_rfl) (by kernel_rfl) (by kernel_rfl) ?_))
  rw [HWv5.out]
  clear HWv5 HS0 HS1
  obtain ⟨s0, s1, s2, s3, s4, s5, s6⟩ := HB5.out
  have HL0 := Lib.hid s3
  have HL1 := Lib.hid s5
  have HK := Lib.hid (HS1.out v5)
  clear s0 s1 s2 s3 s4 s5 s6
  go_wp2_with (first | (with_reducible refine wpList_load_row (o := ⟨some 57, _, _, _, _, _⟩) rfl 30 _ rfl (v2.heap.size + 1) rfl 30 (pdA (r1.2.1) none 0) (0, 0) _ (HL0.out).raw Try.underlying30 rfl (by kernel_rfl) ?_) | (with_reducible refine wpList_load_row (o := ⟨some 58, _, _, _, _, _⟩) rfl 30 _ rfl (v4.heap.size + 1) rfl 30 (pdA (r1.2.1) none 0) (0, 0) _ (HL1.out).raw Try.underlying30 rfl (by kernel_rfl) ?_))
  refine HK.out.mono ?_
  rintro e v6 ⟨rfl, hb1⟩
  obtain ⟨s0, s1, s2, s3, s4, s5, s6⟩ := HB5.out
  have hbn : Below v5.heap.size v5 v6 := hb1
  have HB6 : Hid (Has v6 (w.heap.size) 26 (prA p) ∧ Has v6 (w.heap.size + 1) 30 (pdA q A c) ∧ Has v6 (v2.heap.size) 26 (prA (r1.1)) ∧ Has v6 (v2.heap.size + 1) 30 (pdA (r1.2.1) none 0) ∧ Has v6 (v4.heap.size) 26 (prA (r1.1)) ∧ Has v6 (v4.heap.size + 1) 30 (pdA (r1.2.1) none 0) ∧ Below w.heap.size w v6) := Lib.hid ⟨s0.under hbn s0.lt, s1.under hbn s1.lt, s2.under hbn s2.lt, s3.under hbn s3.lt, s4.under hbn s4.lt, s5.under hbn s5.lt, s6.trans (hbn.mono s6.size)⟩
  clear s0 s1 s2 s3 s4 s5 s6
  clear HK HB5 HL0 HL1 HS1 hb1
  clear hbn
  obtain ⟨s0, s1, s2, s3, s4, s5, s6⟩ := HB6.out
  have HL0 := Lib.hid s0
  have HL1 := Lib.hid s1
  have HK := Lib.hid (HB1'.out v6 (HSL.out _ s6))
  clear s0 s1 s2 s3 s4 s5 s6
  go_wp2_with (first | (with_reducible refine wpList_load_row (o := ⟨some 61, _, _, _, _, _⟩) rfl 26 _ rfl (w.heap.size) rfl 26 (prA p) (0, 0) _ (HL0.out).raw Try.underlying26 rfl (by kernel_rfl) ?_) | (with_reducible refine wpList_load_row (o := ⟨some 62, _, _, _, _, _⟩) rfl 30 _ rfl (w.heap.size + 1) rfl 30 (pdA q A c) (0, 0) _ (HL1.out).raw Try.underlying30 rfl (by kernel_rfl) ?_))
  refine HK.out.mono ?_
  rintro e v7 ⟨rfl, hb1⟩
  obtain ⟨s0, s1, s2, s3, s4, s5, s6⟩ := HB6.out
  have hbn : Below v6.heap.size v6 v7 := hb1
  have HB7 : Hid (Has v7 (w.heap.size) 26 (prA p) ∧ Has v7 (w.heap.size + 1) 30 (pdA q A c) ∧ Has v7 (v2.heap.size) 26 (prA (r1.1)) ∧ Has v7 (v2.heap.size + 1) 30 (pdA (r1.2.1) none 0) ∧ Has v7 (v4.heap.size) 26 (prA (r1.1)) ∧ Has v7 (v4.heap.size + 1) 30 (pdA (r1.2.1) none 0) ∧ Below w.heap.size w v7) := Lib.hid ⟨s0.under hbn s0.lt, s1.under hbn s1.lt, s2.under hbn s2.lt, s3.under hbn s3.lt, s4.under hbn s4.lt, s5.under hbn s5.lt, s6.trans (hbn.mono s6.size)⟩
  clear s0 s1 s2 s3 s4 s5 s6
  clear HK HB6 HL0 HL1 HB1' hb1
  clear hbn
  obtain ⟨s0, s1, s2, s3, s4, s5, s6⟩ := HB7.out
  have lt7_7 : v4.heap.size + 1 < v7.heap.size := s5.lt
  have le7_7 : w.heap.size ≤ v7.heap.size := s6.size
  have HS0 : Hid (Has ((v7.alloc (.cells #[.int .i64 0, .int .i64 0, .int .u32 0, .int .u32 0, .int .u32 0, .int .u32 0, .int .i64 0, .int .u32 0, .int .u32 0, .int .u32 0, .int .u32 0, .int .u32 0, .int .u32 0, .bool false, .int .u32 0, .int .u32 0] 26)).alloc (.cells #[.int .i64 0, .int .i64 0, .int .i64 0, .int .u32 0, .int .u32 0, .slice none 0 0, .int .u64 0] 30)) (v7.heap.size) 26 #[.int .i64 0, .int .i64 0, .int .u32 0, .int .u32 0, .int .u32 0, .int .u32 0, .int .i64 0, .int .u32 0, .int .u32 0, .int .u32 0, .int .u32 0, .int .u32 0, .int .u32 0, .bool false, .int .u32 0, .int .u32 0]) := Lib.hid (Has.beside (Has.made v7 26 #[.int .i64 0, .int .i64 0, .int .u32 0, .int .u32 0, .int .u32 0, .int .u32 0, .int .i64 0, .int .u32 0, .int .u32 0, .int .u32 0, .int .u32 0, .int .u32 0, .int .u32 0, .bool false, .int .u32 0, .int .u32 0]) (.cells #[.int .i64 0, .int .i64 0, .int .i64 0, .int .u32 0, .int .u32 0, .slice none 0 0, .int .u64 0] 30))
  have HS1 : Hid (Has (((v7.alloc (.cells #[.int .i64 0, .int .i64 0, .int .u32 0, .int .u32 0, .int .u32 0, .int .u32 0, .int .i64 0, .int .u32 0, .int .u32 0, .int .u32 0, .int .u32 0, .int .u32 0, .int .u32 0, .bool false, .int .u32 0, .int .u32 0] 26)).alloc (.cells #[.int .i64 0, .int .i64 0, .int .i64 0, .int .u32 0, .int .u32 0, .slice none 0 0, .int .u64 0] 30)).setRow (v7.heap.size) (prA (r2.1))) (v7.heap.size + 1) 30 #[.int .i64 0, .int .i64 0, .int .i64 0, .int .u32 0, .int .u32 0, .slice none 0 0, .int .u64 0]) := Lib.hid (has_setRow_other7 (show Has ((v7.alloc (.cells #[.int .i64 0, .int .i64 0, .int .u32 0, .int .u32 0, .int .u32 0, .int .u32 0, .int .i64 0, .int .u32 0, .int .u32 0, .int .u32 0, .int .u32 0, .int .u32 0, .int .u32 0, .bool false, .int .u32 0, .int .u32 0] 26)).alloc (.cells #[.int .i64 0, .int .i64 0, .int .i64 0, .int .u32 0, .int .u32 0, .slice none 0 0, .int .u64 0] 30)) (v7.heap.size + 1) 30 #[.int .i64 0, .int .i64 0, .int .i64 0, .int .u32 0, .int .u32 0, .slice none 0 0, .int .u64 0] from has_at (by simp)) (by omega) (prA (r2.1)))
  obtain ⟨v8, hv8⟩ : ∃ v8, (((v7.alloc (.cells #[.int .i64 0, .int .i64 0, .int .u32 0, .int .u32 0, .int .u32 0, .int .u32 0, .int .i64 0, .int .u32 0, .int .u32 0, .int .u32 0, .int .u32 0, .int .u32 0, .int .u32 0, .bool false, .int .u32 0, .int .u32 0] 26)).alloc (.cells #[.int .i64 0, .int .i64 0, .int .i64 0, .int .u32 0, .int .u32 0, .slice none 0 0, .int .u64 0] 30)).setRow (v7.heap.size) (prA (r2.1))).setRow (v7.heap.size + 1) (pdA (r2.2.1) none 0) = v8 := ⟨_, rfl⟩
  have hbw : Below v7.heap.size v7 v8 := by rw [← hv8]; exact (below_row (g := v7.heap.size + 1) (below_row (g := v7.heap.size) (Below.alloc (Below.alloc (Below.refl v7.heap.size v7) (Nat.le_refl _) (.cells #[.int .i64 0, .int .i64 0, .int .u32 0, .int .u32 0, .int .u32 0, .int .u32 0, .int .i64 0, .int .u32 0, .int .u32 0, .int .u32 0, .int .u32 0, .int .u32 0, .int .u32 0, .bool false, .int .u32 0, .int .u32 0] 26)) (by simp) (.cells #[.int .i64 0, .int .i64 0, .int .i64 0, .int .u32 0, .int .u32 0, .slice none 0 0, .int .u64 0] 30)) (by omega) (prA (r2.1))) (by omega) (pdA (r2.2.1) none 0))
  have HB8 : Hid (Has v8 (w.heap.size) 26 (prA p) ∧ Has v8 (w.heap.size + 1) 30 (pdA q A c) ∧ Has v8 (v2.heap.size) 26 (prA (r1.1)) ∧ Has v8 (v2.heap.size + 1) 30 (pdA (r1.2.1) none 0) ∧ Has v8 (v4.heap.size) 26 (prA (r1.1)) ∧ Has v8 (v4.heap.size + 1) 30 (pdA (r1.2.1) none 0) ∧ Has v8 (v7.heap.size) 26 (prA (r2.1)) ∧ Has v8 (v7.heap.size + 1) 30 (pdA (r2.2.1) none 0) ∧ Below w.heap.size w v8) := Lib.hid ⟨s0.under hbw s0.lt, s1.under hbw s1.lt, s2.under hbw s2.lt, s3.under hbw s3.lt, s4.under hbw s4.lt, s5.under hbw s5.lt, (by rw [← hv8]; exact (has_setRow_other7 (has_setRow7 (Has.beside (Has.made v7 26 #[.int .i64 0, .int .i64 0, .int .u32 0, .int .u32 0, .int .u32 0, .int .u32 0, .int .i64 0, .int .u32 0, .int .u32 0, .int .u32 0, .int .u32 0, .int .u32 0, .int .u32 0, .bool false, .int .u32 0, .int .u32 0]) (.cells #[.int .i64 0, .int .i64 0, .int .i64 0, .int .u32 0, .int .u32 0, .slice none 0 0, .int .u64 0] 30)) (prA (r2.1))) (by omega) (pdA (r2.2.1) none 0))), (by rw [← hv8]; exact (has_setRow7 (has_setRow_other7 (show Has ((v7.alloc (.cells #[.int .i64 0, .int .i64 0, .int .u32 0, .int .u32 0, .int .u32 0, .int .u32 0, .int .i64 0, .int .u32 0, .int .u32 0, .int .u32 0, .int .u32 0, .int .u32 0, .int .u32 0, .bool false, .int .u32 0, .int .u32 0] 26)).alloc (.cells #[.int .i64 0, .int .i64 0, .int .i64 0, .int .u32 0, .int .u32 0, .slice none 0 0, .int .u64 0] 30)) (v7.heap.size + 1) 30 #[.int .i64 0, .int .i64 0, .int .i64 0, .int .u32 0, .int .u32 0, .slice none 0 0, .int .u64 0] from has_at (by simp)) (by omega) (prA (r2.1))) (pdA (r2.2.1) none 0))), s6.trans (hbw.mono s6.size)⟩
  clear hbw
  have HWv8 := Lib.hid hv8
  clear s0 s1 s2 s3 s4 s5 s6
  clear hv8 HB7
  go_upto_region 8 with (first | (with_reducible refine wpList_store_rowTo (o := ⟨none, _, _, _, _, _⟩) rfl 26 _ _ rfl rfl (v7.heap.size) (prA (r2.1)) rfl rfl 26 _ (HS0.out).raw (by kernel_rfl) (by kernel_rfl) (by kernel_rfl) ?_) | (with_reducible refine wpList_store_rowTo (o := ⟨none, _, _, _, _, _⟩) rfl 30 _ _ rfl rfl (v7.heap.size + 1) (pdA (r2.2.1) none 0) rfl rfl 30 _ (HS1.out).raw (by kernel_rfl) (by kernel_rfl) (by kernel_rfl) ?_))
  rw [HWv8.out]
  clear HWv8 HS0 HS1
  obtain ⟨s0, s1, s2, s3, s4, s5, s6, s7, s8⟩ := HB8.out
  have HL0 := Lib.hid s0
  have HL1 := Lib.hid s1
  have HK := Lib.hid (HB2'.out v8)
  clear s0 s1 s2 s3 s4 s5 s6 s7 s8
  go_wp2_with (first | (with_reducible refine wpList_load_row (o := ⟨some 69, _, _, _, _, _⟩) rfl 26 _ rfl (w.heap.size) rfl 26 (prA p) (0, 0) _ (HL0.out).raw Try.underlying26 rfl (by kernel_rfl) ?_) | (with_reducible refine wpList_load_row (o := ⟨some 70, _, _, _, _, _⟩) rfl 30 _ rfl (w.heap.size + 1) rfl 30 (pdA q A c) (0, 0) _ (HL1.out).raw Try.underlying30 rfl (by kernel_rfl) ?_))
  refine HK.out.mono ?_
  rintro e v9 ⟨rfl, hb1⟩
  obtain ⟨s0, s1, s2, s3, s4, s5, s6, s7, s8⟩ := HB8.out
  have hbn : Below v8.heap.size v8 v9 := hb1
  have HB9 : Hid (Has v9 (w.heap.size) 26 (prA p) ∧ Has v9 (w.heap.size + 1) 30 (pdA q A c) ∧ Has v9 (v2.heap.size) 26 (prA (r1.1)) ∧ Has v9 (v2.heap.size + 1) 30 (pdA (r1.2.1) none 0) ∧ Has v9 (v4.heap.size) 26 (prA (r1.1)) ∧ Has v9 (v4.heap.size + 1) 30 (pdA (r1.2.1) none 0) ∧ Has v9 (v7.heap.size) 26 (prA (r2.1)) ∧ Has v9 (v7.heap.size + 1) 30 (pdA (r2.2.1) none 0) ∧ Below w.heap.size w v9) := Lib.hid ⟨s0.under hbn s0.lt, s1.under hbn s1.lt, s2.under hbn s2.lt, s3.under hbn s3.lt, s4.under hbn s4.lt, s5.under hbn s5.lt, s6.under hbn s6.lt, s7.under hbn s7.lt, s8.trans (hbn.mono s8.size)⟩
  clear s0 s1 s2 s3 s4 s5 s6 s7 s8
  clear HK HB8 HL0 HL1 HB2' hb1
  clear hbn
  obtain ⟨s0, s1, s2, s3, s4, s5, s6, s7, s8⟩ := HB9.out
  have lt9_9 : v7.heap.size + 1 < v9.heap.size := s7.lt
  have le9_9 : w.heap.size ≤ v9.heap.size := s8.size
  have HS0 : Hid (Has ((v9.alloc (.cells #[.int .i64 0, .int .i64 0, .int .u32 0, .int .u32 0, .int .u32 0, .int .u32 0, .int .i64 0, .int .u32 0, .int .u32 0, .int .u32 0, .int .u32 0, .int .u32 0, .int .u32 0, .bool false, .int .u32 0, .int .u32 0] 26)).alloc (.cells #[.int .i64 0, .int .i64 0, .int .i64 0, .int .u32 0, .int .u32 0, .slice none 0 0, .int .u64 0] 30)) (v9.heap.size) 26 #[.int .i64 0, .int .i64 0, .int .u32 0, .int .u32 0, .int .u32 0, .int .u32 0, .int .i64 0, .int .u32 0, .int .u32 0, .int .u32 0, .int .u32 0, .int .u32 0, .int .u32 0, .bool false, .int .u32 0, .int .u32 0]) := Lib.hid (Has.beside (Has.made v9 26 #[.int .i64 0, .int .i64 0, .int .u32 0, .int .u32 0, .int .u32 0, .int .u32 0, .int .i64 0, .int .u32 0, .int .u32 0, .int .u32 0, .int .u32 0, .int .u32 0, .int .u32 0, .bool false, .int .u32 0, .int .u32 0]) (.cells #[.int .i64 0, .int .i64 0, .int .i64 0, .int .u32 0, .int .u32 0, .slice none 0 0, .int .u64 0] 30))
  have HS1 : Hid (Has (((v9.alloc (.cells #[.int .i64 0, .int .i64 0, .int .u32 0, .int .u32 0, .int .u32 0, .int .u32 0, .int .i64 0, .int .u32 0, .int .u32 0, .int .u32 0, .int .u32 0, .int .u32 0, .int .u32 0, .bool false, .int .u32 0, .int .u32 0] 26)).alloc (.cells #[.int .i64 0, .int .i64 0, .int .i64 0, .int .u32 0, .int .u32 0, .slice none 0 0, .int .u64 0] 30)).setRow (v9.heap.size) (prA (r2.1))) (v9.heap.size + 1) 30 #[.int .i64 0, .int .i64 0, .int .i64 0, .int .u32 0, .int .u32 0, .slice none 0 0, .int .u64 0]) := Lib.hid (has_setRow_other7 (show Has ((v9.alloc (.cells #[.int .i64 0, .int .i64 0, .int .u32 0, .int .u32 0, .int .u32 0, .int .u32 0, .int .i64 0, .int .u32 0, .int .u32 0, .int .u32 0, .int .u32 0, .int .u32 0, .int .u32 0, .bool false, .int .u32 0, .int .u32 0] 26)).alloc (.cells #[.int .i64 0, .int .i64 0, .int .i64 0, .int .u32 0, .int .u32 0, .slice none 0 0, .int .u64 0] 30)) (v9.heap.size + 1) 30 #[.int .i64 0, .int .i64 0, .int .i64 0, .int .u32 0, .int .u32 0, .slice none 0 0, .int .u64 0] from has_at (by simp)) (by omega) (prA (r2.1)))
  obtain ⟨v10, hv10⟩ : ∃ v10, (((v9.alloc (.cells #[.int .i64 0, .int .i64 0, .int .u32 0, .int .u32 0, .int .u32 0, .int .u32 0, .int .i64 0, .int .u32 0, .int .u32 0, .int .u32 0, .int .u32 0, .int .u32 0, .int .u32 0, .bool false, .int .u32 0, .int .u32 0] 26)).alloc (.cells #[.int .i64 0, .int .i64 0, .int .i64 0, .int .u32 0, .int .u32 0, .slice none 0 0, .int .u64 0] 30)).setRow (v9.heap.size) (prA (r2.1))).setRow (v9.heap.size + 1) (pdA (r2.2.1) none 0) = v10 := ⟨_, rfl⟩
  have hbw : Below v9.heap.size v9 v10 := by rw [← hv10]; exact (below_row (g := v9.heap.size + 1) (below_row (g := v9.heap.size) (Below.alloc (Below.alloc (Below.refl v9.heap.size v9) (Nat.le_refl _) (.cells #[.int .i64 0, .int .i64 0, .int .u32 0, .int .u32 0, .int .u32 0, .int .u32 0, .int .i64 0, .int .u32 0, .int .u32 0, .int .u32 0, .int .u32 0, .int .u32 0, .int .u32 0, .bool false, .int .u32 0, .int .u32 0] 26)) (by simp) (.cells #[.int .i64 0, .int .i64 0, .int .i64 0, .int .u32 0, .int .u32 0, .slice none 0 0, .int .u64 0] 30)) (by omega) (prA (r2.1))) (by omega) (pdA (r2.2.1) none 0))
  have HB10 : Hid (Has v10 (w.heap.size) 26 (prA p) ∧ Has v10 (w.heap.size + 1) 30 (pdA q A c) ∧ Has v10 (v2.heap.size) 26 (prA (r1.1)) ∧ Has v10 (v2.heap.size + 1) 30 (pdA (r1.2.1) none 0) ∧ Has v10 (v4.heap.size) 26 (prA (r1.1)) ∧ Has v10 (v4.heap.size + 1) 30 (pdA (r1.2.1) none 0) ∧ Has v10 (v7.heap.size) 26 (prA (r2.1)) ∧ Has v10 (v7.heap.size + 1) 30 (pdA (r2.2.1) none 0) ∧ Has v10 (v9.heap.size) 26 (prA (r2.1)) ∧ Has v10 (v9.heap.size + 1) 30 (pdA (r2.2.1) none 0) ∧ Below w.heap.size w v10) := Lib.hid ⟨s0.under hbw s0.lt, s1.under hbw s1.lt, s2.under hbw s2.lt, s3.under hbw s3.lt, s4.under hbw s4.lt, s5.under hbw s5.lt, s6.under hbw s6.lt, s7.under hbw s7.lt, (by rw [← hv10]; exact (has_setRow_other7 (has_setRow7 (Has.beside (Has.made v9 26 #[.int .i64 0, .int .i64 0, .int .u32 0, .int .u32 0, .int .u32 0, .int .u32 0, .int .i64 0, .int .u32 0, .int .u32 0, .int .u32 0, .int .u32 0, .int .u32 0, .int .u32 0, .bool false, .int .u32 0, .int .u32 0]) (.cells #[.int .i64 0, .int .i64 0, .int .i64 0, .int .u32 0, .int .u32 0, .slice none 0 0, .int .u64 0] 30)) (prA (r2.1))) (by omega) (pdA (r2.2.1) none 0))), (by rw [← hv10]; exact (has_setRow7 (has_setRow_other7 (show Has ((v9.alloc (.cells #[.int .i64 0, .int .i64 0, .int .u32 0, .int .u32 0, .int .u32 0, .int .u32 0, .int .i64 0, .int .u32 0, .int .u32 0, .int .u32 0, .int .u32 0, .int .u32 0, .int .u32 0, .bool false, .int .u32 0, .int .u32 0] 26)).alloc (.cells #[.int .i64 0, .int .i64 0, .int .i64 0, .int .u32 0, .int .u32 0, .slice none 0 0, .int .u64 0] 30)) (v9.heap.size + 1) 30 #[.int .i64 0, .int .i64 0, .int .i64 0, .int .u32 0, .int .u32 0, .slice none 0 0, .int .u64 0] from has_at (by simp)) (by omega) (prA (r2.1))) (pdA (r2.2.1) none 0))), s8.trans (hbw.mono s8.size)⟩
  clear hbw
  have HWv10 := Lib.hid hv10
  clear s0 s1 s2 s3 s4 s5 s6 s7 s8
  clear hv10 HB9
  go_upto_region 9 with (first | (with_reducible refine wpList_store_rowTo (o := ⟨none, _, _, _, _, _⟩) rfl 26 _ _ rfl rfl (v9.heap.size) (prA (r2.1)) rfl rfl 26 _ (HS0.out).raw (by kernel_rfl) (by kernel_rfl) (by kernel_rfl) ?_) | (with_reducible refine wpList_store_rowTo (o := ⟨none, _, _, _, _, _⟩) rfl 30 _ _ rfl rfl (v9.heap.size + 1) (pdA (r2.2.1) none 0) rfl rfl 30 _ (HS1.out).raw (by kernel_rfl) (by kernel_rfl) (by kernel_rfl) ?_))
  rw [HWv10.out]
  clear HWv10 HS0 HS1
  obtain ⟨s0, s1, s2, s3, s4, s5, s6, s7, s8, s9, s10⟩ := HB10.out
  have HL0 := Lib.hid s7
  have HL1 := Lib.hid s9
  have HK := Lib.hid (HS2.out v10)
  clear s0 s1 s2 s3 s4 s5 s6 s7 s8 s9 s10
  go_wp2_with (first | (with_reducible refine wpList_load_row (o := ⟨some 76, _, _, _, _, _⟩) rfl 30 _ rfl (v7.heap.size + 1) rfl 30 (pdA (r2.2.1) none 0) (0, 0) _ (HL0.out).raw Try.underlying30 rfl (by kernel_rfl) ?_) | (with_reducible refine wpList_load_row (o := ⟨some 77, _, _, _, _, _⟩) rfl 30 _ rfl (v9.heap.size + 1) rfl 30 (pdA (r2.2.1) none 0) (0, 0) _ (HL1.out).raw Try.underlying30 rfl (by kernel_rfl) ?_))
  refine HK.out.mono ?_
  rintro e v11 ⟨rfl, hb1⟩
  obtain ⟨s0, s1, s2, s3, s4, s5, s6, s7, s8, s9, s10⟩ := HB10.out
  have hbn : Below v10.heap.size v10 v11 := hb1
  have HB11 : Hid (Has v11 (w.heap.size) 26 (prA p) ∧ Has v11 (w.heap.size + 1) 30 (pdA q A c) ∧ Has v11 (v2.heap.size) 26 (prA (r1.1)) ∧ Has v11 (v2.heap.size + 1) 30 (pdA (r1.2.1) none 0) ∧ Has v11 (v4.heap.size) 26 (prA (r1.1)) ∧ Has v11 (v4.heap.size + 1) 30 (pdA (r1.2.1) none 0) ∧ Has v11 (v7.heap.size) 26 (prA (r2.1)) ∧ Has v11 (v7.heap.size + 1) 30 (pdA (r2.2.1) none 0) ∧ Has v11 (v9.heap.size) 26 (prA (r2.1)) ∧ Has v11 (v9.heap.size + 1) 30 (pdA (r2.2.1) none 0) ∧ Below w.heap.size w v11) := Lib.hid ⟨s0.under hbn s0.lt, s1.under hbn s1.lt, s2.under hbn s2.lt, s3.under hbn s3.lt, s4.under hbn s4.lt, s5.under hbn s5.lt, s6.under hbn s6.lt, s7.under hbn s7.lt, s8.under hbn s8.lt, s9.under hbn s9.lt, s10.trans (hbn.mono s10.size)⟩
  clear s0 s1 s2 s3 s4 s5 s6 s7 s8 s9 s10
  clear HK HB10 HL0 HL1 HS2 hb1
  clear hbn
  obtain ⟨s0, s1, s2, s3, s4, s5, s6, s7, s8, s9, s10⟩ := HB11.out
  have HL0 := Lib.hid s0
  have HL1 := Lib.hid s1
  have HK := Lib.hid (HC1.out v11 (HSL.out _ s10))
  clear s0 s1 s2 s3 s4 s5 s6 s7 s8 s9 s10
  go_wp2_with (first | (with_reducible refine wpList_load_row (o := ⟨some 80, _, _, _, _, _⟩) rfl 26 _ rfl (w.heap.size) rfl 26 (prA p) (0, 0) _ (HL0.out).raw Try.underlying26 rfl (by kernel_rfl) ?_) | (with_reducible refine wpList_load_row (o := ⟨some 81, _, _, _, _, _⟩) rfl 30 _ rfl (w.heap.size + 1) rfl 30 (pdA q A c) (0, 0) _ (HL1.out).raw Try.underlying30 rfl (by kernel_rfl) ?_))
  refine HK.out.mono ?_
  rintro e v12 ⟨rfl, hb1⟩
  obtain ⟨s0, s1, s2, s3, s4, s5, s6, s7, s8, s9, s10⟩ := HB11.out
  have hbn : Below v11.heap.size v11 v12 := hb1
  have HB12 : Hid (Has v12 (w.heap.size) 26 (prA p) ∧ Has v12 (w.heap.size + 1) 30 (pdA q A c) ∧ Has v12 (v2.heap.size) 26 (prA (r1.1)) ∧ Has v12 (v2.heap.size + 1) 30 (pdA (r1.2.1) none 0) ∧ Has v12 (v4.heap.size) 26 (prA (r1.1)) ∧ Has v12 (v4.heap.size + 1) 30 (pdA (r1.2.1) none 0) ∧ Has v12 (v7.heap.size) 26 (prA (r2.1)) ∧ Has v12 (v7.heap.size + 1) 30 (pdA (r2.2.1) none 0) ∧ Has v12 (v9.heap.size) 26 (prA (r2.1)) ∧ Has v12 (v9.heap.size + 1) 30 (pdA (r2.2.1) none 0) ∧ Below w.heap.size w v12) := Lib.hid ⟨s0.under hbn s0.lt, s1.under hbn s1.lt, s2.under hbn s2.lt, s3.under hbn s3.lt, s4.under hbn s4.lt, s5.under hbn s5.lt, s6.under hbn s6.lt, s7.under hbn s7.lt, s8.under hbn s8.lt, s9.under hbn s9.lt, s10.trans (hbn.mono s10.size)⟩
  clear s0 s1 s2 s3 s4 s5 s6 s7 s8 s9 s10
  clear HK HB11 HL0 HL1 HC1 hb1
  clear hbn
  obtain ⟨s0, s1, s2, s3, s4, s5, s6, s7, s8, s9, s10⟩ := HB12.out
  have lt12_12 : v9.heap.size + 1 < v12.heap.size := s9.lt
  have le12_12 : w.heap.size ≤ v12.heap.size := s10.size
  have HS0 : Hid (Has ((v12.alloc (.cells #[.int .i64 0, .int .i64 0, .int .u32 0, .int .u32 0, .int .u32 0, .int .u32 0, .int .i64 0, .int .u32 0, .int .u32 0, .int .u32 0, .int .u32 0, .int .u32 0, .int .u32 0, .bool false, .int .u32 0, .int .u32 0] 26)).alloc (.cells #[.int .i64 0, .int .i64 0, .int .i64 0, .int .u32 0, .int .u32 0, .slice none 0 0, .int .u64 0] 30)) (v12.heap.size) 26 #[.int .i64 0, .int .i64 0, .int .u32 0, .int .u32 0, .int .u32 0, .int .u32 0, .int .i64 0, .int .u32 0, .int .u32 0, .int .u32 0, .int .u32 0, .int .u32 0, .int .u32 0, .bool false, .int .u32 0, .int .u32 0]) := Lib.hid (Has.beside (Has.made v12 26 #[.int .i64 0, .int .i64 0, .int .u32 0, .int .u32 0, .int .u32 0, .int .u32 0, .int .i64 0, .int .u32 0, .int .u32 0, .int .u32 0, .int .u32 0, .int .u32 0, .int .u32 0, .bool false, .int .u32 0, .int .u32 0]) (.cells #[.int .i64 0, .int .i64 0, .int .i64 0, .int .u32 0, .int .u32 0, .slice none 0 0, .int .u64 0] 30))
  have HS1 : Hid (Has (((v12.alloc (.cells #[.int .i64 0, .int .i64 0, .int .u32 0, .int .u32 0, .int .u32 0, .int .u32 0, .int .i64 0, .int .u32 0, .int .u32 0, .int .u32 0, .int .u32 0, .int .u32 0, .int .u32 0, .bool false, .int .u32 0, .int .u32 0] 26)).alloc (.cells #[.int .i64 0, .int .i64 0, .int .i64 0, .int .u32 0, .int .u32 0, .slice none 0 0, .int .u64 0] 30)).setRow (v12.heap.size) (prA (r3.1))) (v12.heap.size + 1) 30 #[.int .i64 0, .int .i64 0, .int .i64 0, .int .u32 0, .int .u32 0, .slice none 0 0, .int .u64 0]) := Lib.hid (has_setRow_other7 (show Has ((v12.alloc (.cells #[.int .i64 0, .int .i64 0, .int .u32 0, .int .u32 0, .int .u32 0, .int .u32 0, .int .i64 0, .int .u32 0, .int .u32 0, .int .u32 0, .int .u32 0, .int .u32 0, .int .u32 0, .bool false, .int .u32 0, .int .u32 0] 26)).alloc (.cells #[.int .i64 0, .int .i64 0, .int .i64 0, .int .u32 0, .int .u32 0, .slice none 0 0, .int .u64 0] 30)) (v12.heap.size + 1) 30 #[.int .i64 0, .int .i64 0, .int .i64 0, .int .u32 0, .int .u32 0, .slice none 0 0, .int .u64 0] from has_at (by simp)) (by omega) (prA (r3.1)))
  obtain ⟨v13, hv13⟩ : ∃ v13, (((v12.alloc (.cells #[.int .i64 0, .int .i64 0, .int .u32 0, .int .u32 0, .int .u32 0, .int .u32 0, .int .i64 0, .int .u32 0, .int .u32 0, .int .u32 0, .int .u32 0, .int .u32 0, .int .u32 0, .bool false, .int .u32 0, .int .u32 0] 26)).alloc (.cells #[.int .i64 0, .int .i64 0, .int .i64 0, .int .u32 0, .int .u32 0, .slice none 0 0, .int .u64 0] 30)).setRow (v12.heap.size) (prA (r3.1))).setRow (v12.heap.size + 1) (pdA (r3.2.1) none 0) = v13 := ⟨_, rfl⟩
  have hbw : Below v12.heap.size v12 v13 := by rw [← hv13]; exact (below_row (g := v12.heap.size + 1) (below_row (g := v12.heap.size) (Below.alloc (Below.alloc (Below.refl v12.heap.size v12) (Nat.le_refl _) (.cells #[.int .i64 0, .int .i64 0, .int .u32 0, .int .u32 0, .int .u32 0, .int .u32 0, .int .i64 0, .int .u32 0, .int .u32 0, .int .u32 0, .int .u32 0, .int .u32 0, .int .u32 0, .bool false, .int .u32 0, .int .u32 0] 26)) (by simp) (.cells #[.int .i64 0, .int .i64 0, .int .i64 0, .int .u32 0, .int .u32 0, .slice none 0 0, .int .u64 0] 30)) (by omega) (prA (r3.1))) (by omega) (pdA (r3.2.1) none 0))
  have HB13 : Hid (Has v13 (w.heap.size) 26 (prA p) ∧ Has v13 (w.heap.size + 1) 30 (pdA q A c) ∧ Has v13 (v2.heap.size) 26 (prA (r1.1)) ∧ Has v13 (v2.heap.size + 1) 30 (pdA (r1.2.1) none 0) ∧ Has v13 (v4.heap.size) 26 (prA (r1.1)) ∧ Has v13 (v4.heap.size + 1) 30 (pdA (r1.2.1) none 0) ∧ Has v13 (v7.heap.size) 26 (prA (r2.1)) ∧ Has v13 (v7.heap.size + 1) 30 (pdA (r2.2.1) none 0) ∧ Has v13 (v9.heap.size) 26 (prA (r2.1)) ∧ Has v13 (v9.heap.size + 1) 30 (pdA (r2.2.1) none 0) ∧ Has v13 (v12.heap.size) 26 (prA (r3.1)) ∧ Has v13 (v12.heap.size + 1) 30 (pdA (r3.2.1) none 0) ∧ Below w.heap.size w v13) := Lib.hid ⟨s0.under hbw s0.lt, s1.under hbw s1.lt, s2.under hbw s2.lt, s3.under hbw s3.lt, s4.under hbw s4.lt, s5.under hbw s5.lt, s6.under hbw s6.lt, s7.under hbw s7.lt, s8.under hbw s8.lt, s9.under hbw s9.lt, (by rw [← hv13]; exact (has_setRow_other7 (has_setRow7 (Has.beside (Has.made v12 26 #[.int .i64 0, .int .i64 0, .int .u32 0, .int .u32 0, .int .u32 0, .int .u32 0, .int .i64 0, .int .u32 0, .int .u32 0, .int .u32 0, .int .u32 0, .int .u32 0, .int .u32 0, .bool false, .int .u32 0, .int .u32 0]) (.cells #[.int .i64 0, .int .i64 0, .int .i64 0, .int .u32 0, .int .u32 0, .slice none 0 0, .int .u64 0] 30)) (prA (r3.1))) (by omega) (pdA (r3.2.1) none 0))), (by rw [← hv13]; exact (has_setRow7 (has_setRow_other7 (show Has ((v12.alloc (.cells #[.int .i64 0, .int .i64 0, .int .u32 0, .int .u32 0, .int .u32 0, .int .u32 0, .int .i64 0, .int .u32 0, .int .u32 0, .int .u32 0, .int .u32 0, .int .u32 0, .int .u32 0, .bool false, .int .u32 0, .int .u32 0] 26)).alloc (.cells #[.int .i64 0, .int .i64 0, .int .i64 0, .int .u32 0, .int .u32 0, .slice none 0 0, .int .u64 0] 30)) (v12.heap.size + 1) 30 #[.int .i64 0, .int .i64 0, .int .i64 0, .int .u32 0, .int .u32 0, .slice none 0 0, .int .u64 0] from has_at (by simp)) (by omega) (prA (r3.1))) (pdA (r3.2.1) none 0))), s10.trans (hbw.mono s10.size)⟩
  clear hbw
  have HWv13 := Lib.hid hv13
  clear s0 s1 s2 s3 s4 s5 s6 s7 s8 s9 s10
  clear hv13 HB12
  go_upto_region 11 with (first | (with_reducible refine wpList_store_rowTo (o := ⟨none, _, _, _, _, _⟩) rfl 26 _ _ rfl rfl (v12.heap.size) (prA (r3.1)) rfl rfl 26 _ (HS0.out).raw (by kernel_rfl) (by kernel_rfl) (by kernel_rfl) ?_) | (with_reducible refine wpList_store_rowTo (o := ⟨none, _, _, _, _, _⟩) rfl 30 _ _ rfl rfl (v12.heap.size + 1) (pdA (r3.2.1) none 0) rfl rfl 30 _ (HS1.out).raw (by kernel_rfl) (by kernel_rfl) (by kernel_rfl) ?_))
  rw [HWv13.out]
  clear HWv13 HS0 HS1
  obtain ⟨s0, s1, s2, s3, s4, s5, s6, s7, s8, s9, s10, s11, s12⟩ := HB13.out
  have HL0 := Lib.hid s0
  have HL1 := Lib.hid s1
  have HK := Lib.hid (HC2.out v13 (HSL.out _ s12))
  clear s0 s1 s2 s3 s4 s5 s6 s7 s8 s9 s10 s11 s12
  go_wp2_with (first | (with_reducible refine wpList_load_row (o := ⟨some 87, _, _, _, _, _⟩) rfl 26 _ rfl (w.heap.size) rfl 26 (prA p) (0, 0) _ (HL0.out).raw Try.underlying26 rfl (by kernel_rfl) ?_) | (with_reducible refine wpList_load_row (o := ⟨some 88, _, _, _, _, _⟩) rfl 30 _ rfl (w.heap.size + 1) rfl 30 (pdA q A c) (0, 0) _ (HL1.out).raw Try.underlying30 rfl (by kernel_rfl) ?_))
  refine HK.out.mono ?_
  rintro e v14 ⟨rfl, hb1⟩
  obtain ⟨s0, s1, s2, s3, s4, s5, s6, s7, s8, s9, s10, s11, s12⟩ := HB13.out
  have hbn : Below v13.heap.size v13 v14 := hb1
  have HB14 : Hid (Has v14 (w.heap.size) 26 (prA p) ∧ Has v14 (w.heap.size + 1) 30 (pdA q A c) ∧ Has v14 (v2.heap.size) 26 (prA (r1.1)) ∧ Has v14 (v2.heap.size + 1) 30 (pdA (r1.2.1) none 0) ∧ Has v14 (v4.heap.size) 26 (prA (r1.1)) ∧ Has v14 (v4.heap.size + 1) 30 (pdA (r1.2.1) none 0) ∧ Has v14 (v7.heap.size) 26 (prA (r2.1)) ∧ Has v14 (v7.heap.size + 1) 30 (pdA (r2.2.1) none 0) ∧ Has v14 (v9.heap.size) 26 (prA (r2.1)) ∧ Has v14 (v9.heap.size + 1) 30 (pdA (r2.2.1) none 0) ∧ Has v14 (v12.heap.size) 26 (prA (r3.1)) ∧ Has v14 (v12.heap.size + 1) 30 (pdA (r3.2.1) none 0) ∧ Below w.heap.size w v14) := Lib.hid ⟨s0.under hbn s0.lt, s1.under hbn s1.lt, s2.under hbn s2.lt, s3.under hbn s3.lt, s4.under hbn s4.lt, s5.under hbn s5.lt, s6.under hbn s6.lt, s7.under hbn s7.lt, s8.under hbn s8.lt, s9.under hbn s9.lt, s10.under hbn s10.lt, s11.under hbn s11.lt, s12.trans (hbn.mono s12.size)⟩
  clear s0 s1 s2 s3 s4 s5 s6 s7 s8 s9 s10 s11 s12
  clear HK HB13 HL0 HL1 HC2 hb1
  clear hbn
  obtain ⟨s0, s1, s2, s3, s4, s5, s6, s7, s8, s9, s10, s11, s12⟩ := HB14.out
  have lt14_14 : v12.heap.size + 1 < v14.heap.size := s11.lt
  have le14_14 : w.heap.size ≤ v14.heap.size := s12.size
  have HS0 : Hid (Has ((v14.alloc (.cells #[.int .i64 0, .int .i64 0, .int .u32 0, .int .u32 0, .int .u32 0, .int .u32 0, .int .i64 0, .int .u32 0, .int .u32 0, .int .u32 0, .int .u32 0, .int .u32 0, .int .u32 0, .bool false, .int .u32 0, .int .u32 0] 26)).alloc (.cells #[.int .i64 0, .int .i64 0, .int .i64 0, .int .u32 0, .int .u32 0, .slice none 0 0, .int .u64 0] 30)) (v14.heap.size) 26 #[.int .i64 0, .int .i64 0, .int .u32 0, .int .u32 0, .int .u32 0, .int .u32 0, .int .i64 0, .int .u32 0, .int .u32 0, .int .u32 0, .int .u32 0, .int .u32 0, .int .u32 0, .bool false, .int .u32 0, .int .u32 0]) := Lib.hid (Has.beside (Has.made v14 26 #[.int .i64 0, .int .i64 0, .int .u32 0, .int .u32 0, .int .u32 0, .int .u32 0, .int .i64 0, .int .u32 0, .int .u32 0, .int .u32 0, .int .u32 0, .int .u32 0, .int .u32 0, .bool false, .int .u32 0, .int .u32 0]) (.cells #[.int .i64 0, .int .i64 0, .int .i64 0, .int .u32 0, .int .u32 0, .slice none 0 0, .int .u64 0] 30))
  have HS1 : Hid (Has (((v14.alloc (.cells #[.int .i64 0, .int .i64 0, .int .u32 0, .int .u32 0, .int .u32 0, .int .u32 0, .int .i64 0, .int .u32 0, .int .u32 0, .int .u32 0, .int .u32 0, .int .u32 0, .int .u32 0, .bool false, .int .u32 0, .int .u32 0] 26)).alloc (.cells #[.int .i64 0, .int .i64 0, .int .i64 0, .int .u32 0, .int .u32 0, .slice none 0 0, .int .u64 0] 30)).setRow (v14.heap.size) (prA (r3.1))) (v14.heap.size + 1) 30 #[.int .i64 0, .int .i64 0, .int .i64 0, .int .u32 0, .int .u32 0, .slice none 0 0, .int .u64 0]) := Lib.hid (has_setRow_other7 (show Has ((v14.alloc (.cells #[.int .i64 0, .int .i64 0, .int .u32 0, .int .u32 0, .int .u32 0, .int .u32 0, .int .i64 0, .int .u32 0, .int .u32 0, .int .u32 0, .int .u32 0, .int .u32 0, .int .u32 0, .bool false, .int .u32 0, .int .u32 0] 26)).alloc (.cells #[.int .i64 0, .int .i64 0, .int .i64 0, .int .u32 0, .int .u32 0, .slice none 0 0, .int .u64 0] 30)) (v14.heap.size + 1) 30 #[.int .i64 0, .int .i64 0, .int .i64 0, .int .u32 0, .int .u32 0, .slice none 0 0, .int .u64 0] from has_at (by simp)) (by omega) (prA (r3.1)))
  obtain ⟨v15, hv15⟩ : ∃ v15, (((v14.alloc (.cells #[.int .i64 0, .int .i64 0, .int .u32 0, .int .u32 0, .int .u32 0, .int .u32 0, .int .i64 0, .int .u32 0, .int .u32 0, .int .u32 0, .int .u32 0, .int .u32 0, .int .u32 0, .bool false, .int .u32 0, .int .u32 0] 26)).alloc (.cells #[.int .i64 0, .int .i64 0, .int .i64 0, .int .u32 0, .int .u32 0, .slice none 0 0, .int .u64 0] 30)).setRow (v14.heap.size) (prA (r3.1))).setRow (v14.heap.size + 1) (pdA (r3.2.1) none 0) = v15 := ⟨_, rfl⟩
  have hbw : Below v14.heap.size v14 v15 := by rw [← hv15]; exact (below_row (g := v14.heap.size + 1) (below_row (g := v14.heap.size) (Below.alloc (Below.alloc (Below.refl v14.heap.size v14) (Nat.le_refl _) (.cells #[.int .i64 0, .int .i64 0, .int .u32 0, .int .u32 0, .int .u32 0, .int .u32 0, .int .i64 0, .int .u32 0, .int .u32 0, .int .u32 0, .int .u32 0, .int .u32 0, .int .u32 0, .bool false, .int .u32 0, .int .u32 0] 26)) (by simp) (.cells #[.int .i64 0, .int .i64 0, .int .i64 0, .int .u32 0, .int .u32 0, .slice none 0 0, .int .u64 0] 30)) (by omega) (prA (r3.1))) (by omega) (pdA (r3.2.1) none 0))
  have HB15 : Hid (Has v15 (w.heap.size) 26 (prA p) ∧ Has v15 (w.heap.size + 1) 30 (pdA q A c) ∧ Has v15 (v2.heap.size) 26 (prA (r1.1)) ∧ Has v15 (v2.heap.size + 1) 30 (pdA (r1.2.1) none 0) ∧ Has v15 (v4.heap.size) 26 (prA (r1.1)) ∧ Has v15 (v4.heap.size + 1) 30 (pdA (r1.2.1) none 0) ∧ Has v15 (v7.heap.size) 26 (prA (r2.1)) ∧ Has v15 (v7.heap.size + 1) 30 (pdA (r2.2.1) none 0) ∧ Has v15 (v9.heap.size) 26 (prA (r2.1)) ∧ Has v15 (v9.heap.size + 1) 30 (pdA (r2.2.1) none 0) ∧ Has v15 (v12.heap.size) 26 (prA (r3.1)) ∧ Has v15 (v12.heap.size + 1) 30 (pdA (r3.2.1) none 0) ∧ Has v15 (v14.heap.size) 26 (prA (r3.1)) ∧ Has v15 (v14.heap.size + 1) 30 (pdA (r3.2.1) none 0) ∧ Below w.heap.size w v15) := Lib.hid ⟨s0.under hbw s0.lt, s1.under hbw s1.lt, s2.under hbw s2.lt, s3.under hbw s3.lt, s4.under hbw s4.lt, s5.under hbw s5.lt, s6.under hbw s6.lt, s7.under hbw s7.lt, s8.under hbw s8.lt, s9.under hbw s9.lt, s10.under hbw s10.lt, s11.under hbw s11.lt, (by rw [← hv15]; exact (has_setRow_other7 (has_setRow7 (Has.beside (Has.made v14 26 #[.int .i64 0, .int .i64 0, .int .u32 0, .int .u32 0, .int .u32 0, .int .u32 0, .int .i64 0, .int .u32 0, .int .u32 0, .int .u32 0, .int .u32 0, .int .u32 0, .int .u32 0, .bool false, .int .u32 0, .int .u32 0]) (.cells #[.int .i64 0, .int .i64 0, .int .i64 0, .int .u32 0, .int .u32 0, .slice none 0 0, .int .u64 0] 30)) (prA (r3.1))) (by omega) (pdA (r3.2.1) none 0))), (by rw [← hv15]; exact (has_setRow7 (has_setRow_other7 (show Has ((v14.alloc (.cells #[.int .i64 0, .int .i64 0, .int .u32 0, .int .u32 0, .int .u32 0, .int .u32 0, .int .i64 0, .int .u32 0, .int .u32 0, .int .u32 0, .int .u32 0, .int .u32 0, .int .u32 0, .bool false, .int .u32 0, .int .u32 0] 26)).alloc (.cells #[.int .i64 0, .int .i64 0, .int .i64 0, .int .u32 0, .int .u32 0, .slice none 0 0, .int .u64 0] 30)) (v14.heap.size + 1) 30 #[.int .i64 0, .int .i64 0, .int .i64 0, .int .u32 0, .int .u32 0, .slice none 0 0, .int .u64 0] from has_at (by simp)) (by omega) (prA (r3.1))) (pdA (r3.2.1) none 0))), s12.trans (hbw.mono s12.size)⟩
  clear hbw
  have HWv15 := Lib.hid hv15
  clear s0 s1 s2 s3 s4 s5 s6 s7 s8 s9 s10 s11 s12
  clear hv15 HB14
  go_upto_region 12 with (first | (with_reducible refine wpList_store_rowTo (o := ⟨none, _, _, _, _, _⟩) rfl 26 _ _ rfl rfl (v14.heap.size) (prA (r3.1)) rfl rfl 26 _ (HS0.out).raw (by kernel_rfl) (by kernel_rfl) (by kernel_rfl) ?_) | (with_reducible refine wpList_store_rowTo (o := ⟨none, _, _, _, _, _⟩) rfl 30 _ _ rfl rfl (v14.heap.size + 1) (pdA (r3.2.1) none 0) rfl rfl 30 _ (HS1.out).raw (by kernel_rfl) (by kernel_rfl) (by kernel_rfl) ?_))
  rw [HWv15.out]
  clear HWv15 HS0 HS1
  obtain ⟨s0, s1, s2, s3, s4, s5, s6, s7, s8, s9, s10, s11, s12, s13, s14⟩ := HB15.out
  have HL0 := Lib.hid s11
  have HL1 := Lib.hid s13
  have HK := Lib.hid (HS3.out v15)
  clear s0 s1 s2 s3 s4 s5 s6 s7 s8 s9 s10 s11 s12 s13 s14
  go_wp2_with (first | (with_reducible refine wpList_load_row (o := ⟨some 93, _, _, _, _, _⟩) rfl 30 _ rfl (v12.heap.size + 1) rfl 30 (pdA (r3.2.1) none 0) (0, 0) _ (HL0.out).raw Try.underlying30 rfl (by kernel_rfl) ?_) | (with_reducible refine wpList_load_row (o := ⟨some 94, _, _, _, _, _⟩) rfl 30 _ rfl (v14.heap.size + 1) rfl 30 (pdA (r3.2.1) none 0) (0, 0) _ (HL1.out).raw Try.underlying30 rfl (by kernel_rfl) ?_))
  refine HK.out.mono ?_
  rintro e v16 ⟨rfl, hb1⟩
  obtain ⟨s0, s1, s2, s3, s4, s5, s6, s7, s8, s9, s10, s11, s12, s13, s14⟩ := HB15.out
  have hbn : Below v15.heap.size v15 v16 := hb1
  have HB16 : Hid (Has v16 (w.heap.size) 26 (prA p) ∧ Has v16 (w.heap.size + 1) 30 (pdA q A c) ∧ Has v16 (v2.heap.size) 26 (prA (r1.1)) ∧ Has v16 (v2.heap.size + 1) 30 (pdA (r1.2.1) none 0) ∧ Has v16 (v4.heap.size) 26 (prA (r1.1)) ∧ Has v16 (v4.heap.size + 1) 30 (pdA (r1.2.1) none 0) ∧ Has v16 (v7.heap.size) 26 (prA (r2.1)) ∧ Has v16 (v7.heap.size + 1) 30 (pdA (r2.2.1) none 0) ∧ Has v16 (v9.heap.size) 26 (prA (r2.1)) ∧ Has v16 (v9.heap.size + 1) 30 (pdA (r2.2.1) none 0) ∧ Has v16 (v12.heap.size) 26 (prA (r3.1)) ∧ Has v16 (v12.heap.size + 1) 30 (pdA (r3.2.1) none 0) ∧ Has v16 (v14.heap.size) 26 (prA (r3.1)) ∧ Has v16 (v14.heap.size + 1) 30 (pdA (r3.2.1) none 0) ∧ Below w.heap.size w v16) := Lib.hid ⟨s0.under hbn s0.lt, s1.under hbn s1.lt, s2.under hbn s2.lt, s3.under hbn s3.lt, s4.under hbn s4.lt, s5.under hbn s5.lt, s6.under hbn s6.lt, s7.under hbn s7.lt, s8.under hbn s8.lt, s9.under hbn s9.lt, s10.under hbn s10.lt, s11.under hbn s11.lt, s12.under hbn s12.lt, s13.under hbn s13.lt, s14.trans (hbn.mono s14.size)⟩
  clear s0 s1 s2 s3 s4 s5 s6 s7 s8 s9 s10 s11 s12 s13 s14
  clear HK HB15 HL0 HL1 HS3 hb1
  clear hbn
  obtain ⟨s0, s1, s2, s3, s4, s5, s6, s7, s8, s9, s10, s11, s12, s13, s14⟩ := HB16.out
  have HL0 := Lib.hid s0
  have HL1 := Lib.hid s1
  have HK := Lib.hid (HD1.out v16 (HSL.out _ s14))
  clear s0 s1 s2 s3 s4 s5 s6 s7 s8 s9 s10 s11 s12 s13 s14
  go_wp2_with (first | (with_reducible refine wpList_load_row (o := ⟨some 97, _, _, _, _, _⟩) rfl 26 _ rfl (w.heap.size) rfl 26 (prA p) (0, 0) _ (HL0.out).raw Try.underlying26 rfl (by kernel_rfl) ?_) | (with_reducible refine wpList_load_row (o := ⟨some 98, _, _, _, _, _⟩) rfl 30 _ rfl (w.heap.size + 1) rfl 30 (pdA q A c) (0, 0) _ (HL1.out).raw Try.underlying30 rfl (by kernel_rfl) ?_))
  refine HK.out.mono ?_
  rintro e v17 ⟨rfl, hb1⟩
  obtain ⟨s0, s1, s2, s3, s4, s5, s6, s7, s8, s9, s10, s11, s12, s13, s14⟩ := HB16.out
  have hbn : Below v16.heap.size v16 v17 := hb1
  have HB17 : Hid (Has v17 (w.heap.size) 26 (prA p) ∧ Has v17 (w.heap.size + 1) 30 (pdA q A c) ∧ Has v17 (v2.heap.size) 26 (prA (r1.1)) ∧ Has v17 (v2.heap.size + 1) 30 (pdA (r1.2.1) none 0) ∧ Has v17 (v4.heap.size) 26 (prA (r1.1)) ∧ Has v17 (v4.heap.size + 1) 30 (pdA (r1.2.1) none 0) ∧ Has v17 (v7.heap.size) 26 (prA (r2.1)) ∧ Has v17 (v7.heap.size + 1) 30 (pdA (r2.2.1) none 0) ∧ Has v17 (v9.heap.size) 26 (prA (r2.1)) ∧ Has v17 (v9.heap.size + 1) 30 (pdA (r2.2.1) none 0) ∧ Has v17 (v12.heap.size) 26 (prA (r3.1)) ∧ Has v17 (v12.heap.size + 1) 30 (pdA (r3.2.1) none 0) ∧ Has v17 (v14.heap.size) 26 (prA (r3.1)) ∧ Has v17 (v14.heap.size + 1) 30 (pdA (r3.2.1) none 0) ∧ Below w.heap.size w v17) := Lib.hid ⟨s0.under hbn s0.lt, s1.under hbn s1.lt, s2.under hbn s2.lt, s3.under hbn s3.lt, s4.under hbn s4.lt, s5.under hbn s5.lt, s6.under hbn s6.lt, s7.under hbn s7.lt, s8.under hbn s8.lt, s9.under hbn s9.lt, s10.under hbn s10.lt, s11.under hbn s11.lt, s12.under hbn s12.lt, s13.under hbn s13.lt, s14.trans (hbn.mono s14.size)⟩
  clear s0 s1 s2 s3 s4 s5 s6 s7 s8 s9 s10 s11 s12 s13 s14
  clear HK HB16 HL0 HL1 HD1 hb1
  clear hbn
  obtain ⟨s0, s1, s2, s3, s4, s5, s6, s7, s8, s9, s10, s11, s12, s13, s14⟩ := HB17.out
  have lt17_17 : v14.heap.size + 1 < v17.heap.size := s13.lt
  have le17_17 : w.heap.size ≤ v17.heap.size := s14.size
  have HS0 : Hid (Has (v17.alloc (.cells #[.int .i64 0, .int .i64 0, .int .u32 0, .int .u32 0, .int .u32 0, .int .u32 0, .int .i64 0, .int .u32 0, .int .u32 0, .int .u32 0, .int .u32 0, .int .u32 0, .int .u32 0, .bool false, .int .u32 0, .int .u32 0] 26)) (v17.heap.size) 26 #[.int .i64 0, .int .i64 0, .int .u32 0, .int .u32 0, .int .u32 0, .int .u32 0, .int .i64 0, .int .u32 0, .int .u32 0, .int .u32 0, .int .u32 0, .int .u32 0, .int .u32 0, .bool false, .int .u32 0, .int .u32 0]) := Lib.hid (Has.made v17 26 #[.int .i64 0, .int .i64 0, .int .u32 0, .int .u32 0, .int .u32 0, .int .u32 0, .int .i64 0, .int .u32 0, .int .u32 0, .int .u32 0, .int .u32 0, .int .u32 0, .int .u32 0, .bool false, .int .u32 0, .int .u32 0])
  obtain ⟨v18, hv18⟩ : ∃ v18, (v17.alloc (.cells #[.int .i64 0, .int .i64 0, .int .u32 0, .int .u32 0, .int .u32 0, .int .u32 0, .int .i64 0, .int .u32 0, .int .u32 0, .int .u32 0, .int .u32 0, .int .u32 0, .int .u32 0, .bool false, .int .u32 0, .int .u32 0] 26)).setRow (v17.heap.size) (prA (r4.1)) = v18 := ⟨_, rfl⟩
  have hbw : Below v17.heap.size v17 v18 := by rw [← hv18]; exact (below_row (g := v17.heap.size) (Below.alloc (Below.refl v17.heap.size v17) (Nat.le_refl _) (.cells #[.int .i64 0, .int .i64 0, .int .u32 0, .int .u32 0, .int .u32 0, .int .u32 0, .int .i64 0, .int .u32 0, .int .u32 0, .int .u32 0, .int .u32 0, .int .u32 0, .int .u32 0, .bool false, .int .u32 0, .int .u32 0] 26)) (by omega) (prA (r4.1)))
  have HB18 : Hid (Has v18 (w.heap.size) 26 (prA p) ∧ Has v18 (w.heap.size + 1) 30 (pdA q A c) ∧ Has v18 (v2.heap.size) 26 (prA (r1.1)) ∧ Has v18 (v2.heap.size + 1) 30 (pdA (r1.2.1) none 0) ∧ Has v18 (v4.heap.size) 26 (prA (r1.1)) ∧ Has v18 (v4.heap.size + 1) 30 (pdA (r1.2.1) none 0) ∧ Has v18 (v7.heap.size) 26 (prA (r2.1)) ∧ Has v18 (v7.heap.size + 1) 30 (pdA (r2.2.1) none 0) ∧ Has v18 (v9.heap.size) 26 (prA (r2.1)) ∧ Has v18 (v9.heap.size + 1) 30 (pdA (r2.2.1) none 0) ∧ Has v18 (v12.heap.size) 26 (prA (r3.1)) ∧ Has v18 (v12.heap.size + 1) 30 (pdA (r3.2.1) none 0) ∧ Has v18 (v14.heap.size) 26 (prA (r3.1)) ∧ Has v18 (v14.heap.size + 1) 30 (pdA (r3.2.1) none 0) ∧ Has v18 (v17.heap.size) 26 (prA (r4.1)) ∧ Below w.heap.size w v18) := Lib.hid ⟨s0.under hbw s0.lt, s1.under hbw s1.lt, s2.under hbw s2.lt, s3.under hbw s3.lt, s4.under hbw s4.lt, s5.under hbw s5.lt, s6.under hbw s6.lt, s7.under hbw s7.lt, s8.under hbw s8.lt, s9.under hbw s9.lt, s10.under hbw s10.lt, s11.under hbw s11.lt, s12.under hbw s12.lt, s13.under hbw s13.lt, (by rw [← hv18]; exact (has_setRow7 (Has.made v17 26 #[.int .i64 0, .int .i64 0, .int .u32 0, .int .u32 0, .int .u32 0, .int .u32 0, .int .i64 0, .int .u32 0, .int .u32 0, .int .u32 0, .int .u32 0, .int .u32 0, .int .u32 0, .bool false, .int .u32 0, .int .u32 0]) (prA (r4.1)))), s14.trans (hbw.mono s14.size)⟩
  clear hbw
  have HWv18 := Lib.hid hv18
  clear s0 s1 s2 s3 s4 s5 s6 s7 s8 s9 s10 s11 s12 s13 s14
  clear hv18 HB17
  go_upto_region 14 with (first | (with_reducible refine wpList_store_rowTo (o := ⟨none, _, _, _, _, _⟩) rfl 26 _ _ rfl rfl (v17.heap.size) (prA (r4.1)) rfl rfl 26 _ (HS0.out).raw (by kernel_rfl) (by kernel_rfl) (by kernel_rfl) ?_))
  rw [HWv18.out]
  clear HWv18 HS0
  obtain ⟨s0, s1, s2, s3, s4, s5, s6, s7, s8, s9, s10, s11, s12, s13, s14, s15⟩ := HB18.out
  have HL0 := Lib.hid s0
  have HL1 := Lib.hid s1
  have HK := Lib.hid (HD2.out v18 (HSL.out _ s15))
  clear s0 s1 s2 s3 s4 s5 s6 s7 s8 s9 s10 s11 s12 s13 s14 s15
  go_wp2_with (first | (with_reducible refine wpList_load_row (o := ⟨some 103, _, _, _, _, _⟩) rfl 26 _ rfl (w.heap.size) rfl 26 (prA p) (0, 0) _ (HL0.out).raw Try.underlying26 rfl (by kernel_rfl) ?_) | (with_reducible refine wpList_load_row (o := ⟨some 104, _, _, _, _, _⟩) rfl 30 _ rfl (w.heap.size + 1) rfl 30 (pdA q A c) (0, 0) _ (HL1.out).raw Try.underlying30 rfl (by kernel_rfl) ?_))
  refine HK.out.mono ?_
  rintro e v19 ⟨rfl, hb1⟩
  obtain ⟨s0, s1, s2, s3, s4, s5, s6, s7, s8, s9, s10, s11, s12, s13, s14, s15⟩ := HB18.out
  have hbn : Below v18.heap.size v18 v19 := hb1
  have HB19 : Hid (Has v19 (w.heap.size) 26 (prA p) ∧ Has v19 (w.heap.size + 1) 30 (pdA q A c) ∧ Has v19 (v2.heap.size) 26 (prA (r1.1)) ∧ Has v19 (v2.heap.size + 1) 30 (pdA (r1.2.1) none 0) ∧ Has v19 (v4.heap.size) 26 (prA (r1.1)) ∧ Has v19 (v4.heap.size + 1) 30 (pdA (r1.2.1) none 0) ∧ Has v19 (v7.heap.size) 26 (prA (r2.1)) ∧ Has v19 (v7.heap.size + 1) 30 (pdA (r2.2.1) none 0) ∧ Has v19 (v9.heap.size) 26 (prA (r2.1)) ∧ Has v19 (v9.heap.size + 1) 30 (pdA (r2.2.1) none 0) ∧ Has v19 (v12.heap.size) 26 (prA (r3.1)) ∧ Has v19 (v12.heap.size + 1) 30 (pdA (r3.2.1) none 0) ∧ Has v19 (v14.heap.size) 26 (prA (r3.1)) ∧ Has v19 (v14.heap.size + 1) 30 (pdA (r3.2.1) none 0) ∧ Has v19 (v17.heap.size) 26 (prA (r4.1)) ∧ Below w.heap.size w v19) := Lib.hid ⟨s0.under hbn s0.lt, s1.under hbn s1.lt, s2.under hbn s2.lt, s3.under hbn s3.lt, s4.under hbn s4.lt, s5.under hbn s5.lt, s6.under hbn s6.lt, s7.under hbn s7.lt, s8.under hbn s8.lt, s9.under hbn s9.lt, s10.under hbn s10.lt, s11.under hbn s11.lt, s12.under hbn s12.lt, s13.under hbn s13.lt, s14.under hbn s14.lt, s15.trans (hbn.mono s15.size)⟩
  clear s0 s1 s2 s3 s4 s5 s6 s7 s8 s9 s10 s11 s12 s13 s14 s15
  clear HK HB18 HL0 HL1 HD2 hb1
  clear hbn
  obtain ⟨s0, s1, s2, s3, s4, s5, s6, s7, s8, s9, s10, s11, s12, s13, s14, s15⟩ := HB19.out
  have lt19_19 : v17.heap.size < v19.heap.size := s14.lt
  have le19_19 : w.heap.size ≤ v19.heap.size := s15.size
  have HS0 : Hid (Has (v19.alloc (.cells #[.int .i64 0, .int .i64 0, .int .u32 0, .int .u32 0, .int .u32 0, .int .u32 0, .int .i64 0, .int .u32 0, .int .u32 0, .int .u32 0, .int .u32 0, .int .u32 0, .int .u32 0, .bool false, .int .u32 0, .int .u32 0] 26)) (v19.heap.size) 26 #[.int .i64 0, .int .i64 0, .int .u32 0, .int .u32 0, .int .u32 0, .int .u32 0, .int .i64 0, .int .u32 0, .int .u32 0, .int .u32 0, .int .u32 0, .int .u32 0, .int .u32 0, .bool false, .int .u32 0, .int .u32 0]) := Lib.hid (Has.made v19 26 #[.int .i64 0, .int .i64 0, .int .u32 0, .int .u32 0, .int .u32 0, .int .u32 0, .int .i64 0, .int .u32 0, .int .u32 0, .int .u32 0, .int .u32 0, .int .u32 0, .int .u32 0, .bool false, .int .u32 0, .int .u32 0])
  obtain ⟨v20, hv20⟩ : ∃ v20, (v19.alloc (.cells #[.int .i64 0, .int .i64 0, .int .u32 0, .int .u32 0, .int .u32 0, .int .u32 0, .int .i64 0, .int .u32 0, .int .u32 0, .int .u32 0, .int .u32 0, .int .u32 0, .int .u32 0, .bool false, .int .u32 0, .int .u32 0] 26)).setRow (v19.heap.size) (prA (r4.1)) = v20 := ⟨_, rfl⟩
  have hbw : Below v19.heap.size v19 v20 := by rw [← hv20]; exact (below_row (g := v19.heap.size) (Below.alloc (Below.refl v19.heap.size v19) (Nat.le_refl _) (.cells #[.int .i64 0, .int .i64 0, .int .u32 0, .int .u32 0, .int .u32 0, .int .u32 0, .int .i64 0, .int .u32 0, .int .u32 0, .int .u32 0, .int .u32 0, .int .u32 0, .int .u32 0, .bool false, .int .u32 0, .int .u32 0] 26)) (by omega) (prA (r4.1)))
  have HB20 : Hid (Has v20 (w.heap.size) 26 (prA p) ∧ Has v20 (w.heap.size + 1) 30 (pdA q A c) ∧ Has v20 (v2.heap.size) 26 (prA (r1.1)) ∧ Has v20 (v2.heap.size + 1) 30 (pdA (r1.2.1) none 0) ∧ Has v20 (v4.heap.size) 26 (prA (r1.1)) ∧ Has v20 (v4.heap.size + 1) 30 (pdA (r1.2.1) none 0) ∧ Has v20 (v7.heap.size) 26 (prA (r2.1)) ∧ Has v20 (v7.heap.size + 1) 30 (pdA (r2.2.1) none 0) ∧ Has v20 (v9.heap.size) 26 (prA (r2.1)) ∧ Has v20 (v9.heap.size + 1) 30 (pdA (r2.2.1) none 0) ∧ Has v20 (v12.heap.size) 26 (prA (r3.1)) ∧ Has v20 (v12.heap.size + 1) 30 (pdA (r3.2.1) none 0) ∧ Has v20 (v14.heap.size) 26 (prA (r3.1)) ∧ Has v20 (v14.heap.size + 1) 30 (pdA (r3.2.1) none 0) ∧ Has v20 (v17.heap.size) 26 (prA (r4.1)) ∧ Has v20 (v19.heap.size) 26 (prA (r4.1)) ∧ Below w.heap.size w v20) := Lib.hid ⟨s0.under hbw s0.lt, s1.under hbw s1.lt, s2.under hbw s2.lt, s3.under hbw s3.lt, s4.under hbw s4.lt, s5.under hbw s5.lt, s6.under hbw s6.lt, s7.under hbw s7.lt, s8.under hbw s8.lt, s9.under hbw s9.lt, s10.under hbw s10.lt, s11.under hbw s11.lt, s12.under hbw s12.lt, s13.under hbw s13.lt, s14.under hbw s14.lt, (by rw [← hv20]; exact (has_setRow7 (Has.made v19 26 #[.int .i64 0, .int .i64 0, .int .u32 0, .int .u32 0, .int .u32 0, .int .u32 0, .int .i64 0, .int .u32 0, .int .u32 0, .int .u32 0, .int .u32 0, .int .u32 0, .int .u32 0, .bool false, .int .u32 0, .int .u32 0]) (prA (r4.1)))), s15.trans (hbw.mono s15.size)⟩
  clear hbw
  have HWv20 := Lib.hid hv20
  clear s0 s1 s2 s3 s4 s5 s6 s7 s8 s9 s10 s11 s12 s13 s14 s15
  clear hv20 HB19
  go_upto_region 15 with (first | (with_reducible refine wpList_store_rowTo (o := ⟨none, _, _, _, _, _⟩) rfl 26 _ _ rfl rfl (v19.heap.size) (prA (r4.1)) rfl rfl 26 _ (HS0.out).raw (by kernel_rfl) (by kernel_rfl) (by kernel_rfl) ?_))
  rw [HWv20.out]
  clear HWv20 HS0
  obtain ⟨s0, s1, s2, s3, s4, s5, s6, s7, s8, s9, s10, s11, s12, s13, s14, s15, s16⟩ := HB20.out
  have HL0 := Lib.hid s2
  have HL1 := Lib.hid s4
  have HL2 := Lib.hid s6
  have HL3 := Lib.hid s8
  have HL4 := Lib.hid s10
  have HL5 := Lib.hid s12
  have HL6 := Lib.hid s14
  have HL7 := Lib.hid s15
  have HBF := Lib.hid s16
  clear s0 s1 s2 s3 s4 s5 s6 s7 s8 s9 s10 s11 s12 s13 s14 s15 s16
  have HE0 := Lib.hid (eql_peer9 (r1.1) v20)
  have HE1 := Lib.hid (eql_peer9 (r2.1) v20)
  have HE2 := Lib.hid (eql_peer9 (r3.1) v20)
  have HE3 := Lib.hid (eql_peer9 (r4.1) v20)
  clear HB20
  go_wp2_with (first | ((with_reducible refine at_slot9 116 ?_); refine wpList_load_rowW9 (o := ⟨some 116, _, _, _, _, _⟩) 26 _ rfl (by kernel_rfl) (v2.heap.size) rfl 26 (prA (r1.1)) (0, 0) _ (HL0.out).raw Try.underlying26 rfl (by kernel_rfl) ?_) | ((with_reducible refine at_slot9 117 ?_); refine wpList_load_rowW9 (o := ⟨some 117, _, _, _, _, _⟩) 26 _ rfl (by kernel_rfl) (v4.heap.size) rfl 26 (prA (r1.1)) (0, 0) _ (HL1.out).raw Try.underlying26 rfl (by kernel_rfl) ?_) | ((with_reducible refine at_slot9 126 ?_); refine wpList_load_rowW9 (o := ⟨some 126, _, _, _, _, _⟩) 26 _ rfl (by kernel_rfl) (v7.heap.size) rfl 26 (prA (r2.1)) (0, 0) _ (HL2.out).raw Try.underlying26 rfl (by kernel_rfl) ?_) | ((with_reducible refine at_slot9 127 ?_); refine wpList_load_rowW9 (o := ⟨some 127, _, _, _, _, _⟩) 26 _ rfl (by kernel_rfl) (v9.heap.size) rfl 26 (prA (r2.1)) (0, 0) _ (HL3.out).raw Try.underlying26 rfl (by kernel_rfl) ?_) | ((with_reducible refine at_slot9 136 ?_); refine wpList_load_rowW9 (o := ⟨some 136, _, _, _, _, _⟩) 26 _ rfl (by kernel_rfl) (v12.heap.size) rfl 26 (prA (r3.1)) (0, 0) _ (HL4.out).raw Try.underlying26 rfl (by kernel_rfl) ?_) | ((with_reducible refine at_slot9 137 ?_); refine wpList_load_rowW9 (o := ⟨some 137, _, _, _, _, _⟩) 26 _ rfl (by kernel_rfl) (v14.heap.size) rfl 26 (prA (r3.1)) (0, 0) _ (HL5.out).raw Try.underlying26 rfl (by kernel_rfl) ?_) | ((with_reducible refine at_slot9 146 ?_); refine wpList_load_rowW9 (o := ⟨some 146, _, _, _, _, _⟩) 26 _ rfl (by kernel_rfl) (v17.heap.size) rfl 26 (prA (r4.1)) (0, 0) _ (HL6.out).raw Try.underlying26 rfl (by kernel_rfl) ?_) | ((with_reducible refine at_slot9 147 ?_); refine wpList_load_rowW9 (o := ⟨some 147, _, _, _, _, _⟩) 26 _ rfl (by kernel_rfl) (v19.heap.size) rfl 26 (prA (r4.1)) (0, 0) _ (HL7.out).raw Try.underlying26 rfl (by kernel_rfl) ?_) | ((with_reducible refine at_slot9 118 ?_); refine wpList_aggCmp9 (o := ⟨some 118, _, _, _, _, _⟩) .eql 26 _ _ _ rfl (by kernel_rfl) _ _ rfl rfl peer_plain9 _ HE0.out ?_) | ((with_reducible refine at_slot9 128 ?_); refine wpList_aggCmp9 (o := ⟨some 128, _, _, _, _, _⟩) .eql 26 _ _ _ rfl (by kernel_rfl) _ _ rfl rfl peer_plain9 _ HE1.out ?_) | ((with_reducible refine at_slot9 138 ?_); refine wpList_aggCmp9 (o := ⟨some 138, _, _, _, _, _⟩) .eql 26 _ _ _ rfl (by kernel_rfl) _ _ rfl rfl peer_plain9 _ HE2.out ?_) | ((with_reducible refine at_slot9 148 ?_); refine wpList_aggCmp9 (o := ⟨some 148, _, _, _, _, _⟩) .eql 26 _ _ _ rfl (by kernel_rfl) _ _ rfl rfl peer_plain9 _ HE3.out ?_))
  go_ret
  exact ⟨by simp, HBF.out⟩
end Go.Proofs.Ytekcnmimfhiblaa
