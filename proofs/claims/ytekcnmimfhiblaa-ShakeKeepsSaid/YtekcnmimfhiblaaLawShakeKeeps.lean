/-
  linesidelaw10.ShakeKeeps, walked.
-/
import Derived.Test.YtekcnmimfhiblaaLawShakePasses
import Derived.Deep.DeepCutAuto
namespace Go.Proofs.Ytekcnmimfhiblaa
open Go.RowKit
open Go.Great

set_option maxRecDepth 100000 in
set_option maxHeartbeats 4000000 in
theorem shakeKeeps_at (base : Key4) (train : Int) (a b c' d' : Nat) (A : Option Addr) (n c : Nat) (xs : List Nat) (w : World) (hbo : base.ok) (hta : -9223372036854775808 ≤ train) (htb : train ≤ 9223372036854775807) (ha : a < 4294967296) (hb : b < 4294967296) (hc' : c' < 4294967296) (hd' : d' < 4294967296) (hin : InBody w A n c xs) :
    Calls Try.prog 8 #[keyV base, .int .i64 train, .int .u32 (a : Nat), .int .u32 (b : Nat), .int .u32 (c' : Nat), .int .u32 (d' : Nat), .slice A n c] w fun e w' => e = .returned (.bool true) ∧ Below w.heap.size w w' := by
  obtain ⟨rfl, hcap, hlm, hs, hx8⟩ := hin
  unfold maxLen at hlm
  obtain ⟨wa, hwa⟩ : ∃ wa, w.alloc (.cells #[.int .u32 (base.a : Nat), .int .u32 (base.b : Nat), .int .u32 (base.c : Nat), .int .u32 (base.d : Nat)] 24) = wa := ⟨_, rfl⟩
  have hbwa : Below w.heap.size w wa := by rw [← hwa]; exact (Below.refl _ _).alloc (Nat.le_refl _) _
  have h0 : Has wa (w.heap.size) 24 #[.int .u32 (base.a : Nat), .int .u32 (base.b : Nat), .int .u32 (base.c : Nat), .int .u32 (base.d : Nat)] := by rw [← hwa]; exact (Has.made _ _ _)
  have HWA := Lib.hid hwa; have HBWA := Lib.hid hbwa
  have HSL := Lib.hid (fun W (hW : Below w.heap.size w W) => Sl.under hs hW)
  have HX8 := Lib.hid hx8
  have HB0 : Hid (Has wa (w.heap.size) 24 #[.int .u32 (base.a : Nat), .int .u32 (base.b : Nat), .int .u32 (base.c : Nat), .int .u32 (base.d : Nat)] ∧ Below w.heap.size w wa) := Lib.hid ⟨h0, hbwa⟩
  have HAW := Lib.hid (awake10_any wa)
  clear hwa hbwa h0 hs hx8 HBWA
  unfold keyV keyA
  go_enter Try.func8, Try.ntmps8
  go_upto_region 1 with fail
  rw [HWA.out]
  clear HWA
  obtain ⟨s0, s1⟩ := HB0.out
  have HK := Lib.hid (HAW.out)
  clear s0 s1
  go_wp2_with fail
  refine HK.out.mono ?_
  rintro e v1 ⟨rfl, hb1⟩
  obtain ⟨s0, s1⟩ := HB0.out
  have hbn : Below wa.heap.size wa v1 := hb1
  have HB1 : Hid (Has v1 (w.heap.size) 24 #[.int .u32 (base.a : Nat), .int .u32 (base.b : Nat), .int .u32 (base.c : Nat), .int .u32 (base.d : Nat)] ∧ Below w.heap.size w v1) := Lib.hid ⟨s0.under hbn s0.lt, s1.trans (hbn.mono s1.size)⟩
  clear s0 s1
  clear HK HB0 HAW hb1
  clear hbn
  by_cases hgo : 1 ≤ xs.length ∧ xs.length ≤ 1023 ∧ 0 ≤ train ∧ train ≤ 16777215
  rotate_left
  · have hno : (xs.length : Int) < 1 ∨ (¬ (xs.length : Int) < 1 ∧ (1023 : Int) < (xs.length : Int)) ∨ (¬ (xs.length : Int) < 1 ∧ ¬ (1023 : Int) < (xs.length : Int) ∧ train < 0) ∨ (¬ (xs.length : Int) < 1 ∧ ¬ (1023 : Int) < (xs.length : Int) ∧ ¬ train < 0 ∧ (16777216 : Int) ≤ train) := by omega
    obtain ⟨s0, s1⟩ := HB1.out
    have HBF := Lib.hid s1
    clear s0 s1 HB1 HSL HX8 hgo
    rcases hno with h1 | ⟨h1, h2⟩ | ⟨h1, h2, h3⟩ | ⟨h1, h2, h3, h4⟩
    all_goals
      go_wp2
      go_ret
      exact ⟨rfl, HBF.out⟩
  obtain ⟨hl1, hl2, ht0, ht1⟩ := hgo
  have x1 : ¬ (xs.length : Int) < 1 := by omega
  have x2 : ¬ (1023 : Int) < (xs.length : Int) := by omega
  have x3 : ¬ train < 0 := by omega
  have x4 : ¬ (16777216 : Int) ≤ train := by omega
  have HAB := Lib.hid (sl_block9 (HSL.out w (Below.refl _ _)) (by rw [u8s_length]; omega))
  have hko := deriveF_ok hbo ha hb
  have HBO := Lib.hid (fun W => both_up base hbo train a b ha hb ht0 ht1 W)
  have hD := fun W hs => osh_data (upE false base train a b) A c xs (upE_ok hbo false train ha hb) HX8.out (by omega) W hs
  rw [data_up ht0 ht1 false hl1 hl2] at hD
  have hN := fun W => osh_answer (upY base train a b) (askP train c') none 0 d' (upE_ok hbo true train ha hb) ⟨hc', show 0 < 4294967296 by decide, fun x hx => (by cases hx), show 0 < 18446744073709551616 by decide⟩ (Nat.zero_le _) hd' W (sl_nil _ _)
  rw [ans_again ht0 ht1] at hN
  have hT := fun A c W hs => osh_take (agaY base train a b c' d') (datP (deriveF base a b) false train b xs) A c (agaY_ok hbo train ha hb hc' hd') (datP_ok hko false train hb HX8.out) (by rw [datP_body]; omega) W hs
  rw [take_again ht0 ht1 hl1 hl2] at hT
  unfold ShPostD at hD
  unfold ShPost3 at hN
  unfold ShPostT at hT
  have HD := Lib.hid hD; have HN := Lib.hid hN; have HT := Lib.hid hT
  clear hD hN hT hko hbo ha hb hc' hd' ht0 ht1 hta htb
  unfold keyV keyA at HBO
  unfold prV pdV at *
  obtain ⟨s0, s1⟩ := HB1.out
  have HL0 := Lib.hid s0
  have HK := Lib.hid (HBO.out v1)
  clear s0 s1
  go_wp2_with (first | (with_reducible refine wpList_load_row (o := ⟨some 48, _, _, _, _, _⟩) rfl 24 _ rfl (w.heap.size) rfl 24 #[.int .u32 (base.a : Nat), .int .u32 (base.b : Nat), .int .u32 (base.c : Nat), .int .u32 (base.d : Nat)] (0, 0) _ (HL0.out).raw Try.underlying24 rfl (by kernel_rfl) ?_))
  refine HK.out.mono ?_
  rintro e v2 ⟨rfl, hb1⟩
  obtain ⟨s0, s1⟩ := HB1.out
  have hbn : Below v1.heap.size v1 v2 := hb1
  have HB2 : Hid (Has v2 (w.heap.size) 24 #[.int .u32 (base.a : Nat), .int .u32 (base.b : Nat), .int .u32 (base.c : Nat), .int .u32 (base.d : Nat)] ∧ Below w.heap.size w v2) := Lib.hid ⟨s0.under hbn s0.lt, s1.trans (hbn.mono s1.size)⟩
  clear s0 s1
  clear HK HB1 HL0 HBO hb1 x1 x2 x3 x4
  clear hbn
  obtain ⟨s0, s1⟩ := HB2.out
  have lt2_2 : w.heap.size < v2.heap.size := s0.lt
  have le2_2 : w.heap.size ≤ v2.heap.size := s1.size
  have HS0 : Hid (Has ((v2.alloc (.cells #[.int .i64 0, .int .i64 0, .int .u32 0, .int .u32 0, .int .u32 0, .int .u32 0, .int .i64 0, .int .u32 0, .int .u32 0, .int .u32 0, .int .u32 0, .int .u32 0, .int .u32 0, .bool false, .int .u32 0, .int .u32 0] 26)).alloc (.cells #[.int .i64 0, .int .i64 0, .int .u32 0, .int .u32 0, .int .u32 0, .int .u32 0, .int .i64 0, .int .u32 0, .int .u32 0, .int .u32 0, .int .u32 0, .int .u32 0, .int .u32 0, .bool false, .int .u32 0, .int .u32 0] 26)) (v2.heap.size) 26 #[.int .i64 0, .int .i64 0, .int .u32 0, .int .u32 0, .int .u32 0, .int .u32 0, .int .i64 0, .int .u32 0, .int .u32 0, .int .u32 0, .int .u32 0, .int .u32 0, .int .u32 0, .bool false, .int .u32 0, .int .u32 0]) := Lib.hid (Has.beside (Has.made v2 26 #[.int .i64 0, .int .i64 0, .int .u32 0, .int .u32 0, .int .u32 0, .int .u32 0, .int .i64 0, .int .u32 0, .int .u32 0, .int .u32 0, .int .u32 0, .int .u32 0, .int .u32 0, .bool false, .int .u32 0, .int .u32 0]) (.cells #[.int .i64 0, .int .i64 0, .int .u32 0, .int .u32 0, .int .u32 0, .int .u32 0, .int .i64 0, .int .u32 0, .int .u32 0, .int .u32 0, .int .u32 0, .int .u32 0, .int .u32 0, .bool false, .int .u32 0, .int .u32 0] 26))
  have HS1 : Hid (Has (((v2.alloc (.cells #[.int .i64 0, .int .i64 0, .int .u32 0, .int .u32 0, .int .u32 0, .int .u32 0, .int .i64 0, .int .u32 0, .int .u32 0, .int .u32 0, .int .u32 0, .int .u32 0, .int .u32 0, .bool false, .int .u32 0, .int .u32 0] 26)).alloc (.cells #[.int .i64 0, .int .i64 0, .int .u32 0, .int .u32 0, .int .u32 0, .int .u32 0, .int .i64 0, .int .u32 0, .int .u32 0, .int .u32 0, .int .u32 0, .int .u32 0, .int .u32 0, .bool false, .int .u32 0, .int .u32 0] 26)).setRow (v2.heap.size) (prA (upX base train a b))) (v2.heap.size + 1) 26 #[.int .i64 0, .int .i64 0, .int .u32 0, .int .u32 0, .int .u32 0, .int .u32 0, .int .i64 0, .int .u32 0, .int .u32 0, .int .u32 0, .int .u32 0, .int .u32 0, .int .u32 0, .bool false, .int .u32 0, .int .u32 0]) := Lib.hid (has_setRow_other7 (show Has ((v2.alloc (.cells #[.int .i64 0, .int .i64 0, .int .u32 0, .int .u32 0, .int .u32 0, .int .u32 0, .int .i64 0, .int .u32 0, .int .u32 0, .int .u32 0, .int .u32 0, .int .u32 0, .int .u32 0, .bool false, .int .u32 0, .int .u32 0] 26)).alloc (.cells #[.int .i64 0, .int .i64 0, .int .u32 0, .int .u32 0, .int .u32 0, .int .u32 0, .int .i64 0, .int .u32 0, .int .u32 0, .int .u32 0, .int .u32 0, .int .u32 0, .int .u32 0, .bool false, .int .u32 0, .int .u32 0] 26)) (v2.heap.size + 1) 26 #[.int .i64 0, .int .i64 0, .int .u32 0, .int .u32 0, .int .u32 0, .int .u32 0, .int .i64 0, .int .u32 0, .int .u32 0, .int .u32 0, .int .u32 0, .int .u32 0, .int .u32 0, .bool false, .int .u32 0, .int .u32 0] from has_at (by simp)) (by omega) (prA (upX base train a b)))
  obtain ⟨v3, hv3⟩ : ∃ v3, (((v2.alloc (.cells #[.int .i64 0, .int .i64 0, .int .u32 0, .int .u32 0, .int .u32 0, .int .u32 0, .int .i64 0, .int .u32 0, .int .u32 0, .int .u32 0, .int .u32 0, .int .u32 0, .int .u32 0, .bool false, .int .u32 0, .int .u32 0] 26)).alloc (.cells #[.int .i64 0, .int .i64 0, .int .u32 0, .int .u32 0, .int .u32 0, .int .u32 0, .int .i64 0, .int .u32 0, .int .u32 0, .int .u32 0, .int .u32 0, .int .u32 0, .int .u32 0, .bool false, .int .u32 0, .int .u32 0] 26)).setRow (v2.heap.size) (prA (upX base train a b))).setRow (v2.heap.size + 1) (prA (upY base train a b)) = v3 := ⟨_, rfl⟩
  have hbw : Below v2.heap.size v2 v3 := by rw [← hv3]; exact (below_row (g := v2.heap.size + 1) (below_row (g := v2.heap.size) (Below.alloc (Below.alloc (Below.refl v2.heap.size v2) (Nat.le_refl _) (.cells #[.int .i64 0, .int .i64 0, .int .u32 0, .int .u32 0, .int .u32 0, .int .u32 0, .int .i64 0, .int .u32 0, .int .u32 0, .int .u32 0, .int .u32 0, .int .u32 0, .int .u32 0, .bool false, .int .u32 0, .int .u32 0] 26)) (by simp) (.cells #[.int .i64 0, .int .i64 0, .int .u32 0, .int .u32 0, .int .u32 0, .int .u32 0, .int .i64 0, .int .u32 0, .int .u32 0, .int .u32 0, .int .u32 0, .int .u32 0, .int .u32 0, .bool false, .int .u32 0, .int .u32 0] 26)) (by omega) (prA (upX base train a b))) (by omega) (prA (upY base train a b)))
  have HB3 : Hid (Has v3 (w.heap.size) 24 #[.int .u32 (base.a : Nat), .int .u32 (base.b : Nat), .int .u32 (base.c : Nat), .int .u32 (base.d : Nat)] ∧ Has v3 (v2.heap.size) 26 (prA (upX base train a b)) ∧ Has v3 (v2.heap.size + 1) 26 (prA (upY base train a b)) ∧ Below w.heap.size w v3) := Lib.hid ⟨s0.under hbw s0.lt, (by rw [← hv3]; exact (has_setRow_other7 (has_setRow7 (Has.beside (Has.made v2 26 #[.int .i64 0, .int .i64 0, .int .u32 0, .int .u32 0, .int .u32 0, .int .u32 0, .int .i64 0, .int .u32 0, .int .u32 0, .int .u32 0, .int .u32 0, .int .u32 0, .int .u32 0, .bool false, .int .u32 0, .int .u32 0]) (.cells #[.int .i64 0, .int .i64 0, .int .u32 0, .int .u32 0, .int .u32 0, .int .u32 0, .int .i64 0, .int .u32 0, .int .u32 0, .int .u32 0, .int .u32 0, .int .u32 0, .int .u32 0, .bool false, .int .u32 0, .int .u32 0] 26)) (prA (upX base train a b))) (by omega) (prA (upY base train a b)))), (by rw [← hv3]; exact (has_setRow7 (has_setRow_other7 (show Has ((v2.alloc (.cells #[.int .i64 0, .int .i64 0, .int .u32 0, .int .u32 0, .int .u32 0, .int .u32 0, .int .i64 0, .int .u32 0, .int .u32 0, .int .u32 0, .int .u32 0, .int .u32 0, .int .u32 0, .bool false, .int .u32 0, .int .u32 0] 26)).alloc (.cells #[.int .i64 0, .int .i64 0, .int .u32 0, .int .u32 0, .int .u32 0, .int .u32 0, .int .i64 0, .int .u32 0, .int .u32 0, .int .u32 0, .int .u32 0, .int .u32 0, .int .u32 0, .bool false, .int .u32 0, .int .u32 0] 26)) (v2.heap.size + 1) 26 #[.int .i64 0, .int .i64 0, .int .u32 0, .int .u32 0, .int .u32 0, .int .u32 0, .int .i64 0, .int .u32 0, .int .u32 0, .int .u32 0, .int .u32 0, .int .u32 0, .int .u32 0, .bool false, .int .u32 0, .int .u32 0] from has_at (by simp)) (by omega) (prA (upX base train a b))) (prA (upY base train a b)))), s1.trans (hbw.mono s1.size)⟩
  clear hbw
  have HWv3 := Lib.hid hv3
  clear s0 s1
  clear hv3 HB2
  go_upto_region 5 with (first | (with_reducible refine wpList_store_rowTo (o := ⟨none, _, _, _, _, _⟩) rfl 26 _ _ rfl rfl (v2.heap.size) (prA (upX base train a b)) rfl rfl 26 _ (HS0.out).raw (by kernel_rfl) (by kernel_rfl) (by kernel_rfl) ?_) | (with_reducible refine wpList_store_rowTo (o := ⟨none, _, _, _, _, _⟩) rfl 26 _ _ rfl rfl (v2.heap.size + 1) (prA (upY base train a b)) rfl rfl 26 _ (HS1.out).raw (by kernel_rfl) (by kernel_rfl) (by kernel_rfl) ?_))
  rw [HWv3.out]
  clear HWv3 HS0 HS1
  obtain ⟨s0, s1, s2, s3⟩ := HB3.out
  have HL0 := Lib.hid s1
  have lty : v2.heap.size + 1 < v3.heap.size := s2.lt
  have ltw : w.heap.size ≤ v2.heap.size + 1 := by have := s0.lt; omega
  have HK := Lib.hid (HD.out v3 (HSL.out _ s3))
  clear s0 s1 s2 s3
  go_wp2_with (first | (with_reducible refine wpList_load_row (o := ⟨some 57, _, _, _, _, _⟩) rfl 26 _ rfl (v2.heap.size) rfl 26 (prA (upX base train a b)) (0, 0) _ (HL0.out).raw Try.underlying26 rfl (by kernel_rfl) ?_))
  refine HK.out.mono ?_
  rintro e v4 ⟨A2, c2, rfl, hs2, ha2, hb1⟩
  obtain ⟨s0, s1, s2, s3⟩ := HB3.out
  have hbn : Below v3.heap.size v3 v4 := hb1.out
  have HB4 : Hid (Has v4 (w.heap.size) 24 #[.int .u32 (base.a : Nat), .int .u32 (base.b : Nat), .int .u32 (base.c : Nat), .int .u32 (base.d : Nat)] ∧ Has v4 (v2.heap.size) 26 (prA (upX base train a b)) ∧ Has v4 (v2.heap.size + 1) 26 (prA (upY base train a b)) ∧ Below w.heap.size w v4) := Lib.hid ⟨s0.under hbn s0.lt, s1.under hbn s1.lt, s2.under hbn s2.lt, s3.trans (hbn.mono s3.size)⟩
  clear s0 s1 s2 s3
  clear HK HB3 HL0 HD hb1
  clear hbn
  obtain ⟨s0, s1, s2, s3⟩ := HB4.out
  have HB5 : Hid (Has v4 (w.heap.size) 24 #[.int .u32 (base.a : Nat), .int .u32 (base.b : Nat), .int .u32 (base.c : Nat), .int .u32 (base.d : Nat)] ∧ Has v4 (v2.heap.size) 26 (prA (upX base train a b)) ∧ Has v4 (v2.heap.size + 1) 26 (prA (upY base train a b)) ∧ Sl v4 1 A2 (datP (deriveF base a b) false train b xs).body.length c2 (u8s (datP (deriveF base a b) false train b xs).body) ∧ Below w.heap.size w v4) := Lib.hid ⟨s0, s1, s2, hs2.out, s3⟩
  clear s0 s1 s2 s3
  clear HB4
  have HAP : Hid (∀ a_, A2 = some a_ → a_.block ≠ v2.heap.size + 1) := Lib.hid (fun a_ ha_ => (ha2.out a_ ha_).elim (fun h_ => by omega) (fun ⟨a0, h0_, h1_⟩ => by have := HAB.out a0 h0_; omega))
  clear hs2 ha2 HAB
  obtain ⟨s0, s1, s2, s3, s4⟩ := HB5.out
  have lt4_5 : v2.heap.size + 1 < v4.heap.size := s2.lt
  have le4_5 : w.heap.size ≤ v4.heap.size := s4.size
  have HS0 : Hid (Has (v4.alloc (.cells #[.int .i64 0, .int .i64 0, .int .i64 0, .int .u32 0, .int .u32 0, .slice none 0 0, .int .u64 0] 30)) (v4.heap.size) 30 #[.int .i64 0, .int .i64 0, .int .i64 0, .int .u32 0, .int .u32 0, .slice none 0 0, .int .u64 0]) := Lib.hid (Has.made v4 30 #[.int .i64 0, .int .i64 0, .int .i64 0, .int .u32 0, .int .u32 0, .slice none 0 0, .int .u64 0])
  obtain ⟨v5, hv5⟩ : ∃ v5, (v4.alloc (.cells #[.int .i64 0, .int .i64 0, .int .i64 0, .int .u32 0, .int .u32 0, .slice none 0 0, .int .u64 0] 30)).setRow (v4.heap.size) (pdA (datP (deriveF base a b) false train b xs) A2 c2) = v5 := ⟨_, rfl⟩
  have hbw : Below v4.heap.size v4 v5 := by rw [← hv5]; exact (below_row (g := v4.heap.size) (Below.alloc (Below.refl v4.heap.size v4) (Nat.le_refl _) (.cells #[.int .i64 0, .int .i64 0, .int .i64 0, .int .u32 0, .int .u32 0, .slice none 0 0, .int .u64 0] 30)) (by omega) (pdA (datP (deriveF base a b) false train b xs) A2 c2))
  have HB6 : Hid (Has v5 (w.heap.size) 24 #[.int .u32 (base.a : Nat), .int .u32 (base.b : Nat), .int .u32 (base.c : Nat), .int .u32 (base.d : Nat)] ∧ Has v5 (v2.heap.size) 26 (prA (upX base train a b)) ∧ Has v5 (v2.heap.size + 1) 26 (prA (upY base train a b)) ∧ Sl v5 1 A2 (datP (deriveF base a b) false train b xs).body.length c2 (u8s (datP (deriveF base a b) false train b xs).body) ∧ Has v5 (v4.heap.size) 30 (pdA (datP (deriveF base a b) false train b xs) A2 c2) ∧ Below w.heap.size w v5) := Lib.hid ⟨s0.under hbw s0.lt, s1.under hbw s1.lt, s2.under hbw s2.lt, s3.under hbw, (by rw [← hv5]; exact (has_setRow7 (Has.made v4 30 #[.int .i64 0, .int .i64 0, .int .i64 0, .int .u32 0, .int .u32 0, .slice none 0 0, .int .u64 0]) (pdA (datP (deriveF base a b) false train b xs) A2 c2))), s4.trans (hbw.mono s4.size)⟩
  clear hbw
  have HWv5 := Lib.hid hv5
  clear s0 s1 s2 s3 s4
  clear hv5 HB5
  go_upto_region 6 with (first | (with_reducible refine wpList_store_rowTo (o := ⟨none, _, _, _, _, _⟩) rfl 30 _ _ rfl rfl (v4.heap.size) (pdA (datP (deriveF base a b) false train b xs) A2 c2) rfl rfl 30 _ (HS0.out).raw (by kernel_rfl) (by kernel_rfl) (by kernel_rfl) ?_))
  rw [HWv5.out]
  clear HWv5 HS0
  obtain ⟨s0, s1, s2, s3, s4, s5⟩ := HB6.out
  have HL0 := Lib.hid s2
  have HK := Lib.hid (HN.out v5)
  clear s0 s1 s2 s3 s4 s5
  go_wp2_with (first | (with_reducible refine wpList_load_row (o := ⟨some 63, _, _, _, _, _⟩) rfl 26 _ rfl (v2.heap.size + 1) rfl 26 (prA (upY base train a b)) (0, 0) _ (HL0.out).raw Try.underlying26 rfl (by kernel_rfl) ?_))
  refine HK.out.mono ?_
  rintro e v6 ⟨rfl, hb1⟩
  obtain ⟨s0, s1, s2, s3, s4, s5⟩ := HB6.out
  have hbn : Below v5.heap.size v5 v6 := hb1
  have HB7 : Hid (Has v6 (w.heap.size) 24 #[.int .u32 (base.a : Nat), .int .u32 (base.b : Nat), .int .u32 (base.c : Nat), .int .u32 (base.d : Nat)] ∧ Has v6 (v2.heap.size) 26 (prA (upX base train a b)) ∧ Has v6 (v2.heap.size + 1) 26 (prA (upY base train a b)) ∧ Sl v6 1 A2 (datP (deriveF base a b) false train b xs).body.length c2 (u8s (datP (deriveF base a b) false train b xs).body) ∧ Has v6 (v4.heap.size) 30 (pdA (datP (deriveF base a b) false train b xs) A2 c2) ∧ Below w.heap.size w v6) := Lib.hid ⟨s0.under hbn s0.lt, s1.under hbn s1.lt, s2.under hbn s2.lt, s3.under hbn, s4.under hbn s4.lt, s5.trans (hbn.mono s5.size)⟩
  clear s0 s1 s2 s3 s4 s5
  clear HK HB6 HL0 HN hb1
  clear hbn
  obtain ⟨s0, s1, s2, s3, s4, s5⟩ := HB7.out
  have lt6_7 : v4.heap.size < v6.heap.size := s4.lt
  have le6_7 : w.heap.size ≤ v6.heap.size := s5.size
  have HS0 : Hid (Has (v6.alloc (.cells #[.int .i64 0, .int .i64 0, .int .i64 0, .int .u32 0, .int .u32 0, .slice none 0 0, .int .u64 0] 30)) (v2.heap.size + 1) 26 (prA (upY base train a b))) := Lib.hid (Has.beside s2 (.cells #[.int .i64 0, .int .i64 0, .int .i64 0, .int .u32 0, .int .u32 0, .slice none 0 0, .int .u64 0] 30))
  have HS1 : Hid (Has ((v6.alloc (.cells #[.int .i64 0, .int .i64 0, .int .i64 0, .int .u32 0, .int .u32 0, .slice none 0 0, .int .u64 0] 30)).setRow (v2.heap.size + 1) (prA (agaY base train a b c' d'))) (v6.heap.size) 30 #[.int .i64 0, .int .i64 0, .int .i64 0, .int .u32 0, .int .u32 0, .slice none 0 0, .int .u64 0]) := Lib.hid (has_setRow_other7 (Has.made v6 30 #[.int .i64 0, .int .i64 0, .int .i64 0, .int .u32 0, .int .u32 0, .slice none 0 0, .int .u64 0]) (by omega) (prA (agaY base train a b c' d')))
  obtain ⟨v7, hv7⟩ : ∃ v7, ((v6.alloc (.cells #[.int .i64 0, .int .i64 0, .int .i64 0, .int .u32 0, .int .u32 0, .slice none 0 0, .int .u64 0] 30)).setRow (v2.heap.size + 1) (prA (agaY base train a b c' d'))).setRow (v6.heap.size) (pdA (ansP base train c' d') none 0) = v7 := ⟨_, rfl⟩
  have HB8 : Hid (Has v7 (w.heap.size) 24 #[.int .u32 (base.a : Nat), .int .u32 (base.b : Nat), .int .u32 (base.c : Nat), .int .u32 (base.d : Nat)] ∧ Has v7 (v2.heap.size) 26 (prA (upX base train a b)) ∧ Has v7 (v2.heap.size + 1) 26 (prA (agaY base train a b c' d')) ∧ Sl v7 1 A2 (datP (deriveF base a b) false train b xs).body.length c2 (u8s (datP (deriveF base a b) false train b xs).body) ∧ Has v7 (v4.heap.size) 30 (pdA (datP (deriveF base a b) false train b xs) A2 c2) ∧ Has v7 (v6.heap.size) 30 (pdA (ansP base train c' d') none 0) ∧ Below w.heap.size w v7) := Lib.hid (by rw [← hv7]; exact ⟨(has_setRow_other7 (has_setRow_other7 (Has.beside s0 (.cells #[.int .i64 0, .int .i64 0, .int .i64 0, .int .u32 0, .int .u32 0, .slice none 0 0, .int .u64 0] 30)) (by omega) (prA (agaY base train a b c' d'))) (by omega) (pdA (ansP base train c' d') none 0)), (has_setRow_other7 (has_setRow_other7 (Has.beside s1 (.cells #[.int .i64 0, .int .i64 0, .int .i64 0, .int .u32 0, .int .u32 0, .slice none 0 0, .int .u64 0] 30)) (by omega) (prA (agaY base train a b c' d'))) (by omega) (pdA (ansP base train c' d') none 0)), (has_setRow_other7 (has_setRow7 (Has.beside s2 (.cells #[.int .i64 0, .int .i64 0, .int .i64 0, .int .u32 0, .int .u32 0, .slice none 0 0, .int .u64 0] 30)) (prA (agaY base train a b c' d'))) (by omega) (pdA (ansP base train c' d') none 0)), (sl_row9 (sl_row9 (Sl.beside s3 (.cells #[.int .i64 0, .int .i64 0, .int .i64 0, .int .u32 0, .int .u32 0, .slice none 0 0, .int .u64 0] 30)) (fun a_ ha_ => HAP.out a_ ha_) (prA (agaY base train a b c' d'))) (fun a_ ha_ => by have := sl_block9 s3 (by rw [u8s_length, datP_body]; omega) a_ ha_; omega) (pdA (ansP base train c' d') none 0)), (has_setRow_other7 (has_setRow_other7 (Has.beside s4 (.cells #[.int .i64 0, .int .i64 0, .int .i64 0, .int .u32 0, .int .u32 0, .slice none 0 0, .int .u64 0] 30)) (by omega) (prA (agaY base train a b c' d'))) (by omega) (pdA (ansP base train c' d') none 0)), (has_setRow7 (has_setRow_other7 (Has.made v6 30 #[.int .i64 0, .int .i64 0, .int .i64 0, .int .u32 0, .int .u32 0, .slice none 0 0, .int .u64 0]) (by omega) (prA (agaY base train a b c' d'))) (pdA (ansP base train c' d') none 0)), (below_row (g := v6.heap.size) (below_row (g := v2.heap.size + 1) (below_al9 s5 (.cells #[.int .i64 0, .int .i64 0, .int .i64 0, .int .u32 0, .int .u32 0, .slice none 0 0, .int .u64 0] 30)) (by omega) (prA (agaY base train a b c' d'))) (by omega) (pdA (ansP base train c' d') none 0))⟩)
  have HWv7 := Lib.hid hv7
  clear s0 s1 s2 s3 s4 s5
  clear hv7 HB7
  go_upto_region 7 with (first | (with_reducible refine wpList_store_rowTo (o := ⟨none, _, _, _, _, _⟩) rfl 26 _ _ rfl rfl (v2.heap.size + 1) (prA (agaY base train a b c' d')) rfl rfl 26 _ (HS0.out).raw (by kernel_rfl) (by kernel_rfl) (by kernel_rfl) ?_) | (with_reducible refine wpList_store_rowTo (o := ⟨none, _, _, _, _, _⟩) rfl 30 _ _ rfl rfl (v6.heap.size) (pdA (ansP base train c' d') none 0) rfl rfl 30 _ (HS1.out).raw (by kernel_rfl) (by kernel_rfl) (by kernel_rfl) ?_))
  rw [HWv7.out]
  clear HWv7 HS0 HS1
  obtain ⟨s0, s1, s2, s3, s4, s5, s6⟩ := HB8.out
  have HL0 := Lib.hid s2
  have HL1 := Lib.hid s4
  have HK := Lib.hid (HT.out A2 c2 v7 s3)
  clear s0 s1 s2 s3 s4 s5 s6
  go_wp2_with (first | (with_reducible refine wpList_load_row (o := ⟨some 73, _, _, _, _, _⟩) rfl 26 _ rfl (v2.heap.size + 1) rfl 26 (prA (agaY base train a b c' d')) (0, 0) _ (HL0.out).raw Try.underlying26 rfl (by kernel_rfl) ?_) | (with_reducible refine wpList_load_row (o := ⟨some 74, _, _, _, _, _⟩) rfl 30 _ rfl (v4.heap.size) rfl 30 (pdA (datP (deriveF base a b) false train b xs) A2 c2) (0, 0) _ (HL1.out).raw Try.underlying30 rfl (by kernel_rfl) ?_))
  refine HK.out.mono ?_
  rintro e v8 ⟨A3, c3, rfl, hs3, _, hb1⟩
  obtain ⟨s0, s1, s2, s3, s4, s5, s6⟩ := HB8.out
  have hbn : Below v7.heap.size v7 v8 := hb1.out
  have HB9 : Hid (Has v8 (w.heap.size) 24 #[.int .u32 (base.a : Nat), .int .u32 (base.b : Nat), .int .u32 (base.c : Nat), .int .u32 (base.d : Nat)] ∧ Has v8 (v2.heap.size) 26 (prA (upX base train a b)) ∧ Has v8 (v2.heap.size + 1) 26 (prA (agaY base train a b c' d')) ∧ Sl v8 1 A2 (datP (deriveF base a b) false train b xs).body.length c2 (u8s (datP (deriveF base a b) false train b xs).body) ∧ Has v8 (v4.heap.size) 30 (pdA (datP (deriveF base a b) false train b xs) A2 c2) ∧ Has v8 (v6.heap.size) 30 (pdA (ansP base train c' d') none 0) ∧ Below w.heap.size w v8) := Lib.hid ⟨s0.under hbn s0.lt, s1.under hbn s1.lt, s2.under hbn s2.lt, s3.under hbn, s4.under hbn s4.lt, s5.under hbn s5.lt, s6.trans (hbn.mono s6.size)⟩
  clear s0 s1 s2 s3 s4 s5 s6
  clear HK HB8 HL0 HL1 HT hb1
  clear hbn
  obtain ⟨s0, s1, s2, s3, s4, s5, s6⟩ := HB9.out
  have d6 : v8.cell? ⟨v2.heap.size + 1, 6, none⟩ = some (.int .i64 2) := s2.cell 6
  have d8 : v8.cell? ⟨v2.heap.size + 1, 8, none⟩ = some (.int .u32 (b : Nat)) := s2.cell 8
  have hv1 := conv8 A3 c3 xs v8 (sl_at8 hs3.out)
  have hv2 := conv8 A c xs v8 (sl_at8 (HSL.out _ s6))
  have HBF := Lib.hid s6
  clear s0 s1 s2 s3 s4 s5 s6
  have hse : ((str8 xs).toList == (str8 xs).toList) = true := by simp
  generalize str8 xs = S at *
  clear HB9 HSL HX8 hs3
  go_wp2
  go_ret
  exact ⟨by simp, HBF.out⟩
end Go.Proofs.Ytekcnmimfhiblaa
