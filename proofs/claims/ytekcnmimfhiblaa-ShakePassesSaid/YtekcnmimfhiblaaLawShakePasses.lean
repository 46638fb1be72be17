/-
  linesidelaw10.ShakePasses, walked.
-/
import Derived.Test.YtekcnmimfhiblaaLawAwake10
import Derived.Test.YtekcnmimfhiblaaOpenPd
import Derived.Deep.DeepCutAuto
namespace Go.Proofs.Ytekcnmimfhiblaa
open Go.RowKit
open Go.Great

set_option maxRecDepth 100000 in
set_option maxHeartbeats 4000000 in
theorem shakePasses_at (base : Key4) (train : Int) (a b : Nat) (A : Option Addr) (n c : Nat) (xs : List Nat) (side : Bool) (y : Nat) (w : World) (hbo : base.ok) (hta : -9223372036854775808 ≤ train) (htb : train ≤ 9223372036854775807) (ha : a < 4294967296) (hb : b < 4294967296) (hin : InBody w A n c xs) (hy : y < 256) :
    Calls Try.prog 5 #[keyV base, .int .i64 train, .int .u32 (a : Nat), .int .u32 (b : Nat), .slice A n c, .bool side, .int .u8 (y : Nat)] w fun e w' => e = .returned (.bool true) ∧ Below w.heap.size w w' := by
  obtain ⟨rfl, hcap, hlm, hs, hx8⟩ := hin
  unfold maxLen at hlm
  obtain ⟨wa, hwa⟩ : ∃ wa, w.alloc (.cells #[.int .u32 (base.a : Nat), .int .u32 (base.b : Nat), .int .u32 (base.c : Nat), .int .u32 (base.d : Nat)] 24) = wa := ⟨_, rfl⟩
  have hbwa : Below w.heap.size w wa := by rw [← hwa]; exact (Below.refl _ _).alloc (Nat.le_refl _) _
  have h0 : Has wa (w.heap.size) 24 #[.int .u32 (base.a : Nat), .int .u32 (base.b : Nat), .int .u32 (base.c : Nat), .int .u32 (base.d : Nat)] := by rw [← hwa]; exact (Has.made _ _ _)
  have HWA := Lib.hid hwa; have HBWA := Lib.hid hbwa
  have HSL := Lib.hid (fun W (hW : Below w.heap.size w W) => Sl.under hs hW)
  have HX8 := Lib.hid hx8
  have HB0 : Hid (Has wa (w.heap.size) 24 #[.int .u32 (base.a : Nat), .int .u32 (base.b : Nat), .int .u32 (base.c : Nat), .int .u32 (base.d : Nat)] ∧ Below w.heap.size w wa) := Lib.hid ⟨h0, hbwa⟩
  have HAW := Lib.hid (awake10_any wa)
  clear hwa hbwa h0 hs hx8 HBWA
  unfold keyV keyA
  go_enter Try.func5, Try.ntmps5
  go_upto_region 1 with fail
  rw [HWA.out]
  clear HWA
  obtain ⟨s0, s1⟩ := HB0.out
  have HK := Lib.hid (HAW.out)
  clear s0 s1
  go_wp2_with fail
  refine HK.out.mono ?_
  rintro e v1 ⟨rfl, hb1⟩
  obtain ⟨s0, s1⟩ := HB0.out
  have hbn : Below wa.heap.size wa v1 := hb1
  have HB1 : Hid (Has v1 (w.heap.size) 24 #[.int .u32 (base.a : Nat), .int .u32 (base.b : Nat), .int .u32 (base.c : Nat), .int .u32 (base.d : Nat)] ∧ Below w.heap.size w v1) := Lib.hid ⟨s0.under hbn s0.lt, s1.trans (hbn.mono s1.size)⟩
  clear s0 s1
  clear HK HB0 HAW hb1
  clear hbn
  by_cases hgo : 1 ≤ xs.length ∧ xs.length ≤ 1023 ∧ 0 ≤ train ∧ train ≤ 16777215
  rotate_left
  · have hno : (xs.length : Int) < 1 ∨ (¬ (xs.length : Int) < 1 ∧ (1023 : Int) < (xs.length : Int)) ∨ (¬ (xs.length : Int) < 1 ∧ ¬ (1023 : Int) < (xs.length : Int) ∧ train < 0) ∨ (¬ (xs.length : Int) < 1 ∧ ¬ (1023 : Int) < (xs.length : Int) ∧ ¬ train < 0 ∧ (16777216 : Int) ≤ train) := by omega
    obtain ⟨s0, s1⟩ := HB1.out
    have HBF := Lib.hid s1
    clear s0 s1 HB1 HSL HX8 hgo
    rcases hno with h1 | ⟨h1, h2⟩ | ⟨h1, h2, h3⟩ | ⟨h1, h2, h3, h4⟩
    all_goals
      go_wp2
      go_ret
      exact ⟨rfl, HBF.out⟩
  obtain ⟨hl1, hl2, ht0, ht1⟩ := hgo
  have x1 : ¬ (xs.length : Int) < 1 := by omega
  have x2 : ¬ (1023 : Int) < (xs.length : Int) := by omega
  have x3 : ¬ train < 0 := by omega
  have x4 : ¬ (16777216 : Int) ≤ train := by omega
  have HAB := Lib.hid (sl_block9 (HSL.out w (Below.refl _ _)) (by rw [u8s_length]; omega))
  have hko := deriveF_ok hbo ha hb
  have HBO := Lib.hid (fun W => both_up base hbo train a b ha hb ht0 ht1 W)
  have hD := fun W hs => osh_data (upE side base train a b) A c xs (upE_ok hbo side train ha hb) HX8.out (by omega) W hs
  rw [data_up ht0 ht1 side hl1 hl2] at hD
  have hT1 := fun A c W hs => osh_take (upE (!side) base train a b) (datP (deriveF base a b) side train b xs) A c (upE_ok hbo (!side) train ha hb) (datP_ok hko side train hb HX8.out) (by rw [datP_body]; omega) W hs
  rw [take_up ht0 ht1 side hl1 hl2] at hT1
  have hT2 := fun A c W hs => osh_take (upE side base train a b) (datP (deriveF base a b) side train b xs) A c (upE_ok hbo side train ha hb) (datP_ok hko side train hb HX8.out) (by rw [datP_body]; omega) W hs
  rw [take_own side] at hT2
  have hE := fun W => osh_end (upE side base train a b) y (upE_ok hbo side train ha hb) hy W
  rw [end_up ht0 ht1 side y] at hE
  have hC := fun A c W hs => osh_close (upE (!side) base train a b) (endP (deriveF base a b) side train b y) A c (upE_ok hbo (!side) train ha hb) (endP_ok hko side train hb hy) (by rw [endP_body]; show 1 ≤ 2000; decide) W hs
  rw [close_up ht0 ht1 side y] at hC
  have hZ := fun W hs => osh_data (shClosed (upE side base train a b)) A c xs (closed_ok (upE_ok hbo side train ha hb)) HX8.out (by omega) W hs
  rw [data_closed] at hZ
  unfold ShPostD at hD hZ
  unfold ShPostT at hT1 hT2
  unfold ShPostE at hE
  unfold ShPost2 at hC
  have HD := Lib.hid hD; have HT1 := Lib.hid hT1; have HT2 := Lib.hid hT2; have HE := Lib.hid hE; have HC := Lib.hid hC; have HZ := Lib.hid hZ
  clear hD hT1 hT2 hE hC hZ hko hbo ha hb ht0 ht1 hta htb hy
  unfold keyV keyA at HBO
  unfold prV pdV at *
  obtain ⟨s0, s1⟩ := HB1.out
  have HL0 := Lib.hid s0
  have HK := Lib.hid (HBO.out v1)
  clear s0 s1
  go_wp2_with (first | (with_reducible refine wpList_load_row (o := ⟨some 57, _, _, _, _, _⟩) rfl 24 _ rfl (w.heap.size) rfl 24 #[.int .u32 (base.a : Nat), .int .u32 (base.b : Nat), .int .u32 (base.c : Nat), .int .u32 (base.d : Nat)] (0, 0) _ (HL0.out).raw Try.underlying24 rfl (by kernel_rfl) ?_))
  refine HK.out.mono ?_
  rintro e v2 ⟨rfl, hb1⟩
  obtain ⟨s0, s1⟩ := HB1.out
  have hbn : Below v1.heap.size v1 v2 := hb1
  have HB2 : Hid (Has v2 (w.heap.size) 24 #[.int .u32 (base.a : Nat), .int .u32 (base.b : Nat), .int .u32 (base.c : Nat), .int .u32 (base.d : Nat)] ∧ Below w.heap.size w v2) := Lib.hid ⟨s0.under hbn s0.lt, s1.trans (hbn.mono s1.size)⟩
  clear s0 s1
  clear HK HB1 HL0 HBO hb1 x1 x2 x3 x4
  clear hbn
  obtain ⟨s0, s1⟩ := HB2.out
  have lt2_2 : w.heap.size < v2.heap.size := s0.lt
  have le2_2 : w.heap.size ≤ v2.heap.size := s1.size
  have HS0 : Hid (Has ((v2.alloc (.cells #[.int .i64 0, .int .i64 0, .int .u32 0, .int .u32 0, .int .u32 0, .int .u32 0, .int .i64 0, .int .u32 0, .int .u32 0, .int .u32 0, .int .u32 0, .int .u32 0, .int .u32 0, .bool false, .int .u32 0, .int .u32 0] 26)).alloc (.cells #[.int .i64 0, .int .i64 0, .int .u32 0, .int .u32 0, .int .u32 0, .int .u32 0, .int .i64 0, .int .u32 0, .int .u32 0, .int .u32 0, .int .u32 0, .int .u32 0, .int .u32 0, .bool false, .int .u32 0, .int .u32 0] 26)) (v2.heap.size) 26 #[.int .i64 0, .int .i64 0, .int .u32 0, .int .u32 0, .int .u32 0, .int .u32 0, .int .i64 0, .int .u32 0, .int .u32 0, .int .u32 0, .int .u32 0, .int .u32 0, .int .u32 0, .bool false, .int .u32 0, .int .u32 0]) := Lib.hid (Has.beside (Has.made v2 26 #[.int .i64 0, .int .i64 0, .int .u32 0, .int .u32 0, .int .u32 0, .int .u32 0, .int .i64 0, .int .u32 0, .int .u32 0, .int .u32 0, .int .u32 0, .int .u32 0, .int .u32 0, .bool false, .int .u32 0, .int .u32 0]) (.cells #[.int .i64 0, .int .i64 0, .int .u32 0, .int .u32 0, .int .u32 0, .int .u32 0, .int .i64 0, .int .u32 0, .int .u32 0, .int .u32 0, .int .u32 0, .int .u32 0, .int .u32 0, .bool false, .int .u32 0, .int .u32 0] 26))
  have HS1 : Hid (Has (((v2.alloc (.cells #[.int .i64 0, .int .i64 0, .int .u32 0, .int .u32 0, .int .u32 0, .int .u32 0, .int .i64 0, .int .u32 0, .int .u32 0, .int .u32 0, .int .u32 0, .int .u32 0, .int .u32 0, .bool false, .int .u32 0, .int .u32 0] 26)).alloc (.cells #[.int .i64 0, .int .i64 0, .int .u32 0, .int .u32 0, .int .u32 0, .int .u32 0, .int .i64 0, .int .u32 0, .int .u32 0, .int .u32 0, .int .u32 0, .int .u32 0, .int .u32 0, .bool false, .int .u32 0, .int .u32 0] 26)).setRow (v2.heap.size) (prA (upX base train a b))) (v2.heap.size + 1) 26 #[.int .i64 0, .int .i64 0, .int .u32 0, .int .u32 0, .int .u32 0, .int .u32 0, .int .i64 0, .int .u32 0, .int .u32 0, .int .u32 0, .int .u32 0, .int .u32 0, .int .u32 0, .bool false, .int .u32 0, .int .u32 0]) := Lib.hid (has_setRow_other7 (show Has ((v2.alloc (.cells #[.int .i64 0, .int .i64 0, .int .u32 0, .int .u32 0, .int .u32 0, .int .u32 0, .int .i64 0, .int .u32 0, .int .u32 0, .int .u32 0, .int .u32 0, .int .u32 0, .int .u32 0, .bool false, .int .u32 0, .int .u32 0] 26)).alloc (.cells #[.int .i64 0, .int .i64 0, .int .u32 0, .int .u32 0, .int .u32 0, .int .u32 0, .int .i64 0, .int .u32 0, .int .u32 0, .int .u32 0, .int .u32 0, .int .u32 0, .int .u32 0, .bool false, .int .u32 0, .int .u32 0] 26)) (v2.heap.size + 1) 26 #[.int .i64 0, .int .i64 0, .int .u32 0, .int .u32 0, .int .u32 0, .int .u32 0, .int .i64 0, .int .u32 0, .int .u32 0, .int .u32 0, .int .u32 0, .int .u32 0, .int .u32 0, .bool false, .int .u32 0, .int .u32 0] from has_at (by simp)) (by omega) (prA (upX base train a b)))
  obtain ⟨v3, hv3⟩ : ∃ v3, (((v2.alloc (.cells #[.int .i64 0, .int .i64 0, .int .u32 0, .int .u32 0, .int .u32 0, .int .u32 0, .int .i64 0, .int .u32 0, .int .u32 0, .int .u32 0, .int .u32 0, .int .u32 0, .int .u32 0, .bool false, .int .u32 0, .int .u32 0] 26)).alloc (.cells #[.int .i64 0, .int .i64 0, .int .u32 0, .int .u32 0, .int .u32 0, .int .u32 0, .int .i64 0, .int .u32 0, .int .u32 0, .int .u32 0, .int .u32 0, .int .u32 0, .int .u32 0, .bool false, .int .u32 0, .int .u32 0] 26)).setRow (v2.heap.size) (prA (upX base train a b))).setRow (v2.heap.size + 1) (prA (upY base train a b)) = v3 := ⟨_, rfl⟩
  have hbw : Below v2.heap.size v2 v3 := by rw [← hv3]; exact (below_row (g := v2.heap.size + 1) (below_row (g := v2.heap.size) (Below.alloc (Below.alloc (Below.refl v2.heap.size v2) (Nat.le_refl _) (.cells #[.int .i64 0, .int .i64 0, .int .u32 0, .int .u32 0, .int .u32 0, .int .u32 0, .int .i64 0, .int .u32 0, .int .u32 0, .int .u32 0, .int .u32 0, .int .u32 0, .int .u32 0, .bool false, .int .u32 0, .int .u32 0] 26)) (by simp) (.cells #[.int .i64 0, .int .i64 0, .int .u32 0, .int .u32 0, .int .u32 0, .int .u32 0, .int .i64 0, .int .u32 0, .int .u32 0, .int .u32 0, .int .u32 0, .int .u32 0, .int .u32 0, .bool false, .int .u32 0, .int .u32 0] 26)) (by omega) (prA (upX base train a b))) (by omega) (prA (upY base train a b)))
  have HB3 : Hid (Has v3 (w.heap.size) 24 #[.int .u32 (base.a : Nat), .int .u32 (base.b : Nat), .int .u32 (base.c : Nat), .int .u32 (base.d : Nat)] ∧ Has v3 (v2.heap.size) 26 (prA (upX base train a b)) ∧ Has v3 (v2.heap.size + 1) 26 (prA (upY base train a b)) ∧ Below w.heap.size w v3) := Lib.hid ⟨s0.under hbw s0.lt, (by rw [← hv3]; exact (has_setRow_other7 (has_setRow7 (Has.beside (Has.made v2 26 #[.int .i64 0, .int .i64 0, .int .u32 0, .int .u32 0, .int .u32 0, .int .u32 0, .int .i64 0, .int .u32 0, .int .u32 0, .int .u32 0, .int .u32 0, .int .u32 0, .int .u32 0, .bool false, .int .u32 0, .int .u32 0]) (.cells #[.int .i64 0, .int .i64 0, .int .u32 0, .int .u32 0, .int .u32 0, .int .u32 0, .int .i64 0, .int .u32 0, .int .u32 0, .int .u32 0, .int .u32 0, .int .u32 0, .int .u32 0, .bool false, .int .u32 0, .int .u32 0] 26)) (prA (upX base train a b))) (by omega) (prA (upY base train a b)))), (by rw [← hv3]; exact (has_setRow7 (has_setRow_other7 (show Has ((v2.alloc (.cells #[.int .i64 0, .int .i64 0, .int .u32 0, .int .u32 0, .int .u32 0, .int .u32 0, .int .i64 0, .int .u32 0, .int .u32 0, .int .u32 0, .int .u32 0, .int .u32 0, .int .u32 0, .bool false, .int .u32 0, .int .u32 0] 26)).alloc (.cells #[.int .i64 0, .int .i64 0, .int .u32 0, .int .u32 0, .int .u32 0, .int .u32 0, .int .i64 0, .int .u32 0, .int .u32 0, .int .u32 0, .int .u32 0, .int .u32 0, .int .u32 0, .bool false, .int .u32 0, .int .u32 0] 26)) (v2.heap.size + 1) 26 #[.int .i64 0, .int .i64 0, .int .u32 0, .int .u32 0, .int .u32 0, .int .u32 0, .int .i64 0, .int .u32 0, .int .u32 0, .int .u32 0, .int .u32 0, .int .u32 0, .int .u32 0, .bool false, .int .u32 0, .int .u32 0] from has_at (by simp)) (by omega) (prA (upX base train a b))) (prA (upY base train a b)))), s1.trans (hbw.mono s1.size)⟩
  clear hbw
  have HWv3 := Lib.hid hv3
  clear s0 s1
  clear hv3 HB2
  go_upto_region 5 with (first | (with_reducible refine wpList_store_rowTo (o := ⟨none, _, _, _, _, _⟩) rfl 26 _ _ rfl rfl (v2.heap.size) (prA (upX base train a b)) rfl rfl 26 _ (HS0.out).raw (by kernel_rfl) (by kernel_rfl) (by kernel_rfl) ?_) | (with_reducible refine wpList_store_rowTo (o := ⟨none, _, _, _, _, _⟩) rfl 26 _ _ rfl rfl (v2.heap.size + 1) (prA (upY base train a b)) rfl rfl 26 _ (HS1.out).raw (by kernel_rfl) (by kernel_rfl) (by kernel_rfl) ?_))
  rw [HWv3.out]
  clear HWv3 HS0 HS1
  obtain ⟨s0, s1, s2, s3⟩ := HB3.out
  have c6 : v3.cell? ⟨v2.heap.size, 6, none⟩ = some (.int .i64 2) := s1.cell 6
  have c7 : v3.cell? ⟨v2.heap.size, 7, none⟩ = some (.int .u32 (a : Nat)) := s1.cell 7
  have c8 : v3.cell? ⟨v2.heap.size, 8, none⟩ = some (.int .u32 (b : Nat)) := s1.cell 8
  have c9 : v3.cell? ⟨v2.heap.size, 9, none⟩ = some (.int .u32 ((deriveF base a b).a : Nat)) := s1.cell 9
  have c10 : v3.cell? ⟨v2.heap.size, 10, none⟩ = some (.int .u32 ((deriveF base a b).b : Nat)) := s1.cell 10
  have c11 : v3.cell? ⟨v2.heap.size, 11, none⟩ = some (.int .u32 ((deriveF base a b).c : Nat)) := s1.cell 11
  have c12 : v3.cell? ⟨v2.heap.size, 12, none⟩ = some (.int .u32 ((deriveF base a b).d : Nat)) := s1.cell 12
  have d6 : v3.cell? ⟨v2.heap.size + 1, 6, none⟩ = some (.int .i64 2) := s2.cell 6
  have d7 : v3.cell? ⟨v2.heap.size + 1, 7, none⟩ = some (.int .u32 (a : Nat)) := s2.cell 7
  have d8 : v3.cell? ⟨v2.heap.size + 1, 8, none⟩ = some (.int .u32 (b : Nat)) := s2.cell 8
  have d9 : v3.cell? ⟨v2.heap.size + 1, 9, none⟩ = some (.int .u32 ((deriveF base a b).a : Nat)) := s2.cell 9
  have d10 : v3.cell? ⟨v2.heap.size + 1, 10, none⟩ = some (.int .u32 ((deriveF base a b).b : Nat)) := s2.cell 10
  have d11 : v3.cell? ⟨v2.heap.size + 1, 11, none⟩ = some (.int .u32 ((deriveF base a b).c : Nat)) := s2.cell 11
  have d12 : v3.cell? ⟨v2.heap.size + 1, 12, none⟩ = some (.int .u32 ((deriveF base a b).d : Nat)) := s2.cell 12
  clear s0 s1 s2 s3
  have ek := neq_key9 (deriveF base a b) v3
  unfold keyA at ek
  have na : ((a : Int) != (a : Int)) = false := by simp
  have nb : ((b : Int) != (b : Int)) = false := by simp
  generalize (deriveF base a b).a = ka at c9 d9 ek
  generalize (deriveF base a b).b = kb at c10 d10 ek
  generalize (deriveF base a b).c = kc at c11 d11 ek
  generalize (deriveF base a b).d = kd at c12 d12 ek
  have EK := Lib.hid ek
  clear ek
  go_upto_region 7 with (refine wpList_aggCmp9 (o := ⟨some 72, _, _, _, _, _⟩) .neq 24 _ _ _ rfl (by rfl) _ _ rfl rfl key_plain9 _ EK.out ?_)
  clear na nb EK c6 c7 c8 c9 c10 c11 c12 d6 d7 d8 d9 d10 d11 d12
  obtain ⟨s0, s1, s2, s3⟩ := HB3.out
  have lt3_3 : v2.heap.size + 1 < v3.heap.size := s2.lt
  have le3_3 : w.heap.size ≤ v3.heap.size := s3.size
  have HS0 : Hid (Has (v3.alloc (.cells #[.int .i64 0, .int .i64 0, .int .u32 0, .int .u32 0, .int .u32 0, .int .u32 0, .int .i64 0, .int .u32 0, .int .u32 0, .int .u32 0, .int .u32 0, .int .u32 0, .int .u32 0, .bool false, .int .u32 0, .int .u32 0] 26)) (v3.heap.size) 26 #[.int .i64 0, .int .i64 0, .int .u32 0, .int .u32 0, .int .u32 0, .int .u32 0, .int .i64 0, .int .u32 0, .int .u32 0, .int .u32 0, .int .u32 0, .int .u32 0, .int .u32 0, .bool false, .int .u32 0, .int .u32 0]) := Lib.hid (Has.made v3 26 #[.int .i64 0, .int .i64 0, .int .u32 0, .int .u32 0, .int .u32 0, .int .u32 0, .int .i64 0, .int .u32 0, .int .u32 0, .int .u32 0, .int .u32 0, .int .u32 0, .int .u32 0, .bool false, .int .u32 0, .int .u32 0])
  obtain ⟨v4, hv4⟩ : ∃ v4, (v3.alloc (.cells #[.int .i64 0, .int .i64 0, .int .u32 0, .int .u32 0, .int .u32 0, .int .u32 0, .int .i64 0, .int .u32 0, .int .u32 0, .int .u32 0, .int .u32 0, .int .u32 0, .int .u32 0, .bool false, .int .u32 0, .int .u32 0] 26)).setRow (v3.heap.size) (prA (upX base train a b)) = v4 := ⟨_, rfl⟩
  have hbw : Below v3.heap.size v3 v4 := by rw [← hv4]; exact (below_row (g := v3.heap.size) (Below.alloc (Below.refl v3.heap.size v3) (Nat.le_refl _) (.cells #[.int .i64 0, .int .i64 0, .int .u32 0, .int .u32 0, .int .u32 0, .int .u32 0, .int .i64 0, .int .u32 0, .int .u32 0, .int .u32 0, .int .u32 0, .int .u32 0, .int .u32 0, .bool false, .int .u32 0, .int .u32 0] 26)) (by omega) (prA (upX base train a b)))
  have HB4 : Hid (Has v4 (w.heap.size) 24 #[.int .u32 (base.a : Nat), .int .u32 (base.b : Nat), .int .u32 (base.c : Nat), .int .u32 (base.d : Nat)] ∧ Has v4 (v2.heap.size) 26 (prA (upX base train a b)) ∧ Has v4 (v2.heap.size + 1) 26 (prA (upY base train a b)) ∧ Has v4 (v3.heap.size) 26 (prA (upX base train a b)) ∧ Below w.heap.size w v4) := Lib.hid ⟨s0.under hbw s0.lt, s1.under hbw s1.lt, s2.under hbw s2.lt, (by rw [← hv4]; exact (has_setRow7 (Has.made v3 26 #[.int .i64 0, .int .i64 0, .int .u32 0, .int .u32 0, .int .u32 0, .int .u32 0, .int .i64 0, .int .u32 0, .int .u32 0, .int .u32 0, .int .u32 0, .int .u32 0, .int .u32 0, .bool false, .int .u32 0, .int .u32 0]) (prA (upX base train a b)))), s3.trans (hbw.mono s3.size)⟩
  clear hbw
  have HWv4 := Lib.hid hv4
  have HL0 := Lib.hid s1
  clear s0 s1 s2 s3
  clear hv4 HB3
  go_upto_region 8 with (first | (with_reducible refine wpList_load_row (o := ⟨some 108, _, _, _, _, _⟩) rfl 26 _ rfl (v2.heap.size) rfl 26 (prA (upX base train a b)) (0, 0) _ (HL0.out).raw Try.underlying26 rfl (by kernel_rfl) ?_) | (with_reducible refine wpList_store_rowTo (o := ⟨none, _, _, _, _, _⟩) rfl 26 _ _ rfl rfl (v3.heap.size) (prA (upX base train a b)) rfl rfl 26 _ (HS0.out).raw (by kernel_rfl) (by kernel_rfl) (by kernel_rfl) ?_))
  rw [HWv4.out]
  clear HWv4 HS0 HL0
  obtain ⟨s0, s1, s2, s3, s4⟩ := HB4.out
  have lt4_4 : v3.heap.size < v4.heap.size := s3.lt
  have le4_4 : w.heap.size ≤ v4.heap.size := s4.size
  have HS0 : Hid (Has (v4.alloc (.cells #[.int .i64 0, .int .i64 0, .int .u32 0, .int .u32 0, .int .u32 0, .int .u32 0, .int .i64 0, .int .u32 0, .int .u32 0, .int .u32 0, .int .u32 0, .int .u32 0, .int .u32 0, .bool false, .int .u32 0, .int .u32 0] 26)) (v4.heap.size) 26 #[.int .i64 0, .int .i64 0, .int .u32 0, .int .u32 0, .int .u32 0, .int .u32 0, .int .i64 0, .int .u32 0, .int .u32 0, .int .u32 0, .int .u32 0, .int .u32 0, .int .u32 0, .bool false, .int .u32 0, .int .u32 0]) := Lib.hid (Has.made v4 26 #[.int .i64 0, .int .i64 0, .int .u32 0, .int .u32 0, .int .u32 0, .int .u32 0, .int .i64 0, .int .u32 0, .int .u32 0, .int .u32 0, .int .u32 0, .int .u32 0, .int .u32 0, .bool false, .int .u32 0, .int .u32 0])
  obtain ⟨v5, hv5⟩ : ∃ v5, (v4.alloc (.cells #[.int .i64 0, .int .i64 0, .int .u32 0, .int .u32 0, .int .u32 0, .int .u32 0, .int .i64 0, .int .u32 0, .int .u32 0, .int .u32 0, .int .u32 0, .int .u32 0, .int .u32 0, .bool false, .int .u32 0, .int .u32 0] 26)).setRow (v4.heap.size) (prA (upY base train a b)) = v5 := ⟨_, rfl⟩
  have hbw : Below v4.heap.size v4 v5 := by rw [← hv5]; exact (below_row (g := v4.heap.size) (Below.alloc (Below.refl v4.heap.size v4) (Nat.le_refl _) (.cells #[.int .i64 0, .int .i64 0, .int .u32 0, .int .u32 0, .int .u32 0, .int .u32 0, .int .i64 0, .int .u32 0, .int .u32 0, .int .u32 0, .int .u32 0, .int .u32 0, .int .u32 0, .bool false, .int .u32 0, .int .u32 0] 26)) (by omega) (prA (upY base train a b)))
  have HB5 : Hid (Has v5 (w.heap.size) 24 #[.int .u32 (base.a : Nat), .int .u32 (base.b : Nat), .int .u32 (base.c : Nat), .int .u32 (base.d : Nat)] ∧ Has v5 (v2.heap.size) 26 (prA (upX base train a b)) ∧ Has v5 (v2.heap.size + 1) 26 (prA (upY base train a b)) ∧ Has v5 (v3.heap.size) 26 (prA (upX base train a b)) ∧ Has v5 (v4.heap.size) 26 (prA (upY base train a b)) ∧ Below w.heap.size w v5) := Lib.hid ⟨s0.under hbw s0.lt, s1.under hbw s1.lt, s2.under hbw s2.lt, s3.under hbw s3.lt, (by rw [← hv5]; exact (has_setRow7 (Has.made v4 26 #[.int .i64 0, .int .i64 0, .int .u32 0, .int .u32 0, .int .u32 0, .int .u32 0, .int .i64 0, .int .u32 0, .int .u32 0, .int .u32 0, .int .u32 0, .int .u32 0, .int .u32 0, .bool false, .int .u32 0, .int .u32 0]) (prA (upY base train a b)))), s4.trans (hbw.mono s4.size)⟩
  clear hbw
  have HWv5 := Lib.hid hv5
  have HL0 := Lib.hid s2
  clear s0 s1 s2 s3 s4
  clear hv5 HB4
  go_upto_region 9 with (first | (with_reducible refine wpList_load_row (o := ⟨some 109, _, _, _, _, _⟩) rfl 26 _ rfl (v2.heap.size + 1) rfl 26 (prA (upY base train a b)) (0, 0) _ (HL0.out).raw Try.underlying26 rfl (by kernel_rfl) ?_) | (with_reducible refine wpList_store_rowTo (o := ⟨none, _, _, _, _, _⟩) rfl 26 _ _ rfl rfl (v4.heap.size) (prA (upY base train a b)) rfl rfl 26 _ (HS0.out).raw (by kernel_rfl) (by kernel_rfl) (by kernel_rfl) ?_))
  rw [HWv5.out]
  clear HWv5 HS0 HL0
  go_upto_if 110 with fail
  go_cut [] (fun wx => Has wx (w.heap.size) 24 #[.int .u32 (base.a : Nat), .int .u32 (base.b : Nat), .int .u32 (base.c : Nat), .int .u32 (base.d : Nat)] ∧ Has wx (v2.heap.size) 26 (prA (upX base train a b)) ∧ Has wx (v2.heap.size + 1) 26 (prA (upY base train a b)) ∧ Has wx (v3.heap.size) 26 (prA (upE side base train a b)) ∧ Has wx (v4.heap.size) 26 (prA (upE (!side) base train a b)) ∧ Below w.heap.size w wx)
  case first =>
    cases side with
    | false =>
      go_wp2_with fail
      go_meet
      exact HB5.out
    | true =>
      obtain ⟨s0, s1, s2, s3, s4, s5⟩ := HB5.out
      have HS0 : Hid (Has v5 (v3.heap.size) 26 (prA (upX base train a b))) := Lib.hid s3
      obtain ⟨v6, hv6⟩ : ∃ v6, v5.setRow (v3.heap.size) (prA (upY base train a b)) = v6 := ⟨_, rfl⟩
      have HB6 : Hid (Has v6 (w.heap.size) 24 #[.int .u32 (base.a : Nat), .int .u32 (base.b : Nat), .int .u32 (base.c : Nat), .int .u32 (base.d : Nat)] ∧ Has v6 (v2.heap.size) 26 (prA (upX base train a b)) ∧ Has v6 (v2.heap.size + 1) 26 (prA (upY base train a b)) ∧ Has v6 (v3.heap.size) 26 (prA (upY base train a b)) ∧ Has v6 (v4.heap.size) 26 (prA (upY base train a b)) ∧ Below w.heap.size w v6) := Lib.hid (by rw [← hv6]; exact ⟨(has_setRow_other7 s0 (by omega) (prA (upY base train a b))), (has_setRow_other7 s1 (by omega) (prA (upY base train a b))), (has_setRow_other7 s2 (by omega) (prA (upY base train a b))), (has_setRow7 s3 (prA (upY base train a b))), (has_setRow_other7 s4 (by omega) (prA (upY base train a b))), (below_row (g := v3.heap.size) s5 (by omega) (prA (upY base train a b)))⟩)
      have HWv6 := Lib.hid hv6
      have HL0 := Lib.hid s2
      clear s0 s1 s2 s3 s4 s5
      clear hv6 HB5
      go_upto_region 11 with (first | (with_reducible refine wpList_load_row (o := ⟨some 111, _, _, _, _, _⟩) rfl 26 _ rfl (v2.heap.size + 1) rfl 26 (prA (upY base train a b)) (0, 0) _ (HL0.out).raw Try.underlying26 rfl (by kernel_rfl) ?_) | (with_reducible refine wpList_store_rowTo (o := ⟨none, _, _, _, _, _⟩) rfl 26 _ _ rfl rfl (v3.heap.size) (prA (upY base train a b)) rfl rfl 26 _ (HS0.out).raw (by kernel_rfl) (by kernel_rfl) (by kernel_rfl) ?_))
      rw [HWv6.out]
      clear HWv6 HS0 HL0
      obtain ⟨s0, s1, s2, s3, s4, s5⟩ := HB6.out
      have HL0 := Lib.hid s1
      have HS0 := Lib.hid s4
      have hfin : Has (v6.setRow (v4.heap.size) (prA (upX base train a b))) (w.heap.size) 24 #[.int .u32 (base.a : Nat), .int .u32 (base.b : Nat), .int .u32 (base.c : Nat), .int .u32 (base.d : Nat)] ∧ Has (v6.setRow (v4.heap.size) (prA (upX base train a b))) (v2.heap.size) 26 (prA (upX base train a b)) ∧ Has (v6.setRow (v4.heap.size) (prA (upX base train a b))) (v2.heap.size + 1) 26 (prA (upY base train a b)) ∧ Has (v6.setRow (v4.heap.size) (prA (upX base train a b))) (v3.heap.size) 26 (prA (upY base train a b)) ∧ Has (v6.setRow (v4.heap.size) (prA (upX base train a b))) (v4.heap.size) 26 (prA (upX base train a b)) ∧ Below w.heap.size w (v6.setRow (v4.heap.size) (prA (upX base train a b))) := ⟨has_setRow_other7 s0 (by omega) _, has_setRow_other7 s1 (by omega) _, has_setRow_other7 s2 (by omega) _, has_setRow_other7 s3 (by omega) _, has_setRow7 s4 _, below_row s5 (by omega) _⟩
      have HFIN := Lib.hid hfin
      clear s0 s1 s2 s3 s4 s5
      clear hfin HB6
      go_wp2_with (first | (with_reducible refine wpList_load_row (o := ⟨some 112, _, _, _, _, _⟩) rfl 26 _ rfl (v2.heap.size) rfl 26 (prA (upX base train a b)) (0, 0) _ (HL0.out).raw Try.underlying26 rfl (by kernel_rfl) ?_) | (with_reducible refine wpList_store_rowTo (o := ⟨none, _, _, _, _, _⟩) rfl 26 _ _ rfl rfl (v4.heap.size) (prA (upX base train a b)) rfl rfl 26 _ (HS0.out).raw (by kernel_rfl) (by kernel_rfl) (by kernel_rfl) ?_))
      go_meet
      exact HFIN.out
  case rest =>
    have HBn : Hid (Has wc (w.heap.size) 24 #[.int .u32 (base.a : Nat), .int .u32 (base.b : Nat), .int .u32 (base.c : Nat), .int .u32 (base.d : Nat)] ∧ Has wc (v2.heap.size) 26 (prA (upX base train a b)) ∧ Has wc (v2.heap.size + 1) 26 (prA (upY base train a b)) ∧ Has wc (v3.heap.size) 26 (prA (upE side base train a b)) ∧ Has wc (v4.heap.size) 26 (prA (upE (!side) base train a b)) ∧ Below w.heap.size w wc) := Lib.hid hcut
    clear hcut HB5
    obtain ⟨v50, hv50⟩ : ∃ v50, wc = v50 := ⟨_, rfl⟩
    rw [hv50] at HBn ⊢
    clear hv50
    have HB6 := HBn
    clear HBn
    obtain ⟨s0, s1, s2, s3, s4, s5⟩ := HB6.out
    have HL0 := Lib.hid s3
    have HK := Lib.hid (HD.out v50 (HSL.out _ s5))
    clear s0 s1 s2 s3 s4 s5
    go_wp2_with (first | (with_reducible refine wpList_load_row (o := ⟨some 114, _, _, _, _, _⟩) rfl 26 _ rfl (v3.heap.size) rfl 26 (prA (upE side base train a b)) (0, 0) _ (HL0.out).raw Try.underlying26 rfl (by kernel_rfl) ?_))
    refine HK.out.mono ?_
    rintro e v51 ⟨A2, c2, rfl, hs2, _, hb1⟩
    obtain ⟨s0, s1, s2, s3, s4, s5⟩ := HB6.out
    have hbn : Below v50.heap.size v50 v51 := hb1.out
    have HB7 : Hid (Has v51 (w.heap.size) 24 #[.int .u32 (base.a : Nat), .int .u32 (base.b : Nat), .int .u32 (base.c : Nat), .int .u32 (base.d : Nat)] ∧ Has v51 (v2.heap.size) 26 (prA (upX base train a b)) ∧ Has v51 (v2.heap.size + 1) 26 (prA (upY base train a b)) ∧ Has v51 (v3.heap.size) 26 (prA (upE side base train a b)) ∧ Has v51 (v4.heap.size) 26 (prA (upE (!side) base train a b)) ∧ Below w.heap.size w v51) := Lib.hid ⟨s0.under hbn s0.lt, s1.under hbn s1.lt, s2.under hbn s2.lt, s3.under hbn s3.lt, s4.under hbn s4.lt, s5.trans (hbn.mono s5.size)⟩
    clear s0 s1 s2 s3 s4 s5
    clear HK HB6 HL0 HD hb1
    clear hbn
    obtain ⟨s0, s1, s2, s3, s4, s5⟩ := HB7.out
    have HB8 : Hid (Has v51 (w.heap.size) 24 #[.int .u32 (base.a : Nat), .int .u32 (base.b : Nat), .int .u32 (base.c : Nat), .int .u32 (base.d : Nat)] ∧ Has v51 (v2.heap.size) 26 (prA (upX base train a b)) ∧ Has v51 (v2.heap.size + 1) 26 (prA (upY base train a b)) ∧ Has v51 (v3.heap.size) 26 (prA (upE side base train a b)) ∧ Has v51 (v4.heap.size) 26 (prA (upE (!side) base train a b)) ∧ Sl v51 1 A2 (datP (deriveF base a b) side train b xs).body.length c2 (u8s (datP (deriveF base a b) side train b xs).body) ∧ Below w.heap.size w v51) := Lib.hid ⟨s0, s1, s2, s3, s4, hs2.out, s5⟩
    clear s0 s1 s2 s3 s4 s5
    clear HB7
    clear hs2
    obtain ⟨s0, s1, s2, s3, s4, s5, s6⟩ := HB8.out
    have lt51_8 : v4.heap.size < v51.heap.size := s4.lt
    have le51_8 : w.heap.size ≤ v51.heap.size := s6.size
    have HS0 : Hid (Has (v51.alloc (.cells #[.int .i64 0, .int .i64 0, .int .i64 0, .int .u32 0, .int .u32 0, .slice none 0 0, .int .u64 0] 30)) (v51.heap.size) 30 #[.int .i64 0, .int .i64 0, .int .i64 0, .int .u32 0, .int .u32 0, .slice none 0 0, .int .u64 0]) := Lib.hid (Has.made v51 30 #[.int .i64 0, .int .i64 0, .int .i64 0, .int .u32 0, .int .u32 0, .slice none 0 0, .int .u64 0])
    obtain ⟨v52, hv52⟩ : ∃ v52, (v51.alloc (.cells #[.int .i64 0, .int .i64 0, .int .i64 0, .int .u32 0, .int .u32 0, .slice none 0 0, .int .u64 0] 30)).setRow (v51.heap.size) (pdA (datP (deriveF base a b) side train b xs) A2 c2) = v52 := ⟨_, rfl⟩
    have hbw : Below v51.heap.size v51 v52 := by rw [← hv52]; exact (below_row (g := v51.heap.size) (Below.alloc (Below.refl v51.heap.size v51) (Nat.le_refl _) (.cells #[.int .i64 0, .int .i64 0, .int .i64 0, .int .u32 0, .int .u32 0, .slice none 0 0, .int .u64 0] 30)) (by omega) (pdA (datP (deriveF base a b) side train b xs) A2 c2))
    have HB9 : Hid (Has v52 (w.heap.size) 24 #[.int .u32 (base.a : Nat), .int .u32 (base.b : Nat), .int .u32 (base.c : Nat), .int .u32 (base.d : Nat)] ∧ Has v52 (v2.heap.size) 26 (prA (upX base train a b)) ∧ Has v52 (v2.heap.size + 1) 26 (prA (upY base train a b)) ∧ Has v52 (v3.heap.size) 26 (prA (upE side base train a b)) ∧ Has v52 (v4.heap.size) 26 (prA (upE (!side) base train a b)) ∧ Sl v52 1 A2 (datP (deriveF base a b) side train b xs).body.length c2 (u8s (datP (deriveF base a b) side train b xs).body) ∧ Has v52 (v51.heap.size) 30 (pdA (datP (deriveF base a b) side train b xs) A2 c2) ∧ Below w.heap.size w v52) := Lib.hid ⟨s0.under hbw s0.lt, s1.under hbw s1.lt, s2.under hbw s2.lt, s3.under hbw s3.lt, s4.under hbw s4.lt, s5.under hbw, (by rw [← hv52]; exact (has_setRow7 (Has.made v51 30 #[.int .i64 0, .int .i64 0, .int .i64 0, .int .u32 0, .int .u32 0, .slice none 0 0, .int .u64 0]) (pdA (datP (deriveF base a b) side train b xs) A2 c2))), s6.trans (hbw.mono s6.size)⟩
    clear hbw
    have HWv52 := Lib.hid hv52
    clear s0 s1 s2 s3 s4 s5 s6
    clear hv52 HB8
    go_upto_region 13 with (first | (with_reducible refine wpList_store_rowTo (o := ⟨none, _, _, _, _, _⟩) rfl 30 _ _ rfl rfl (v51.heap.size) (pdA (datP (deriveF base a b) side train b xs) A2 c2) rfl rfl 30 _ (HS0.out).raw (by kernel_rfl) (by kernel_rfl) (by kernel_rfl) ?_))
    rw [HWv52.out]
    clear HWv52 HS0
    obtain ⟨s0, s1, s2, s3, s4, s5, s6, s7⟩ := HB9.out
    have HL0 := Lib.hid s4
    have HL1 := Lib.hid s6
    have HK := Lib.hid (HT1.out A2 c2 v52 s5)
    clear s0 s1 s2 s3 s4 s5 s6 s7
    go_wp2_with (first | (with_reducible refine wpList_load_row (o := ⟨some 120, _, _, _, _, _⟩) rfl 26 _ rfl (v4.heap.size) rfl 26 (prA (upE (!side) base train a b)) (0, 0) _ (HL0.out).raw Try.underlying26 rfl (by kernel_rfl) ?_) | (with_reducible refine wpList_load_row (o := ⟨some 121, _, _, _, _, _⟩) rfl 30 _ rfl (v51.heap.size) rfl 30 (pdA (datP (deriveF base a b) side train b xs) A2 c2) (0, 0) _ (HL1.out).raw Try.underlying30 rfl (by kernel_rfl) ?_))
    refine HK.out.mono ?_
    rintro e v53 ⟨A3, c3, rfl, hs3, _, hb1⟩
    obtain ⟨s0, s1, s2, s3, s4, s5, s6, s7⟩ := HB9.out
    have hbn : Below v52.heap.size v52 v53 := hb1.out
    have HB10 : Hid (Has v53 (w.heap.size) 24 #[.int .u32 (base.a : Nat), .int .u32 (base.b : Nat), .int .u32 (base.c : Nat), .int .u32 (base.d : Nat)] ∧ Has v53 (v2.heap.size) 26 (prA (upX base train a b)) ∧ Has v53 (v2.heap.size + 1) 26 (prA (upY base train a b)) ∧ Has v53 (v3.heap.size) 26 (prA (upE side base train a b)) ∧ Has v53 (v4.heap.size) 26 (prA (upE (!side) base train a b)) ∧ Sl v53 1 A2 (datP (deriveF base a b) side train b xs).body.length c2 (u8s (datP (deriveF base a b) side train b xs).body) ∧ Has v53 (v51.heap.size) 30 (pdA (datP (deriveF base a b) side train b xs) A2 c2) ∧ Below w.heap.size w v53) := Lib.hid ⟨s0.under hbn s0.lt, s1.under hbn s1.lt, s2.under hbn s2.lt, s3.under hbn s3.lt, s4.under hbn s4.lt, s5.under hbn, s6.under hbn s6.lt, s7.trans (hbn.mono s7.size)⟩
    clear s0 s1 s2 s3 s4 s5 s6 s7
    clear HK HB9 HL0 HL1 HT1 hb1
    clear hbn
    obtain ⟨s0, s1, s2, s3, s4, s5, s6, s7⟩ := HB10.out
    have HB11 : Hid (Has v53 (w.heap.size) 24 #[.int .u32 (base.a : Nat), .int .u32 (base.b : Nat), .int .u32 (base.c : Nat), .int .u32 (base.d : Nat)] ∧ Has v53 (v2.heap.size) 26 (prA (upX base train a b)) ∧ Has v53 (v2.heap.size + 1) 26 (prA (upY base train a b)) ∧ Has v53 (v3.heap.size) 26 (prA (upE side base train a b)) ∧ Has v53 (v4.heap.size) 26 (prA (upE (!side) base train a b)) ∧ Sl v53 1 A2 (datP (deriveF base a b) side train b xs).body.length c2 (u8s (datP (deriveF base a b) side train b xs).body) ∧ Has v53 (v51.heap.size) 30 (pdA (datP (deriveF base a b) side train b xs) A2 c2) ∧ Sl v53 1 A3 xs.length c3 (u8s xs) ∧ Below w.heap.size w v53) := Lib.hid ⟨s0, s1, s2, s3, s4, s5, s6, hs3.out, s7⟩
    clear s0 s1 s2 s3 s4 s5 s6 s7
    clear HB10
    clear hs3
    obtain ⟨s0, s1, s2, s3, s4, s5, s6, s7, s8⟩ := HB11.out
    have HL0 := Lib.hid s3
    have HL1 := Lib.hid s6
    have HK := Lib.hid (HT2.out A2 c2 v53 s5)
    clear s0 s1 s2 s3 s4 s5 s6 s7 s8
    go_wp2_with (first | (with_reducible refine wpList_load_row (o := ⟨some 126, _, _, _, _, _⟩) rfl 26 _ rfl (v3.heap.size) rfl 26 (prA (upE side base train a b)) (0, 0) _ (HL0.out).raw Try.underlying26 rfl (by kernel_rfl) ?_) | (with_reducible refine wpList_load_row (o := ⟨some 127, _, _, _, _, _⟩) rfl 30 _ rfl (v51.heap.size) rfl 30 (pdA (datP (deriveF base a b) side train b xs) A2 c2) (0, 0) _ (HL1.out).raw Try.underlying30 rfl (by kernel_rfl) ?_))
    refine HK.out.mono ?_
    rintro e v54 ⟨A4, c4, rfl, _, _, hb1⟩
    obtain ⟨s0, s1, s2, s3, s4, s5, s6, s7, s8⟩ := HB11.out
    have hbn : Below v53.heap.size v53 v54 := hb1.out
    have HB12 : Hid (Has v54 (w.heap.size) 24 #[.int .u32 (base.a : Nat), .int .u32 (base.b : Nat), .int .u32 (base.c : Nat), .int .u32 (base.d : Nat)] ∧ Has v54 (v2.heap.size) 26 (prA (upX base train a b)) ∧ Has v54 (v2.heap.size + 1) 26 (prA (upY base train a b)) ∧ Has v54 (v3.heap.size) 26 (prA (upE side base train a b)) ∧ Has v54 (v4.heap.size) 26 (prA (upE (!side) base train a b)) ∧ Sl v54 1 A2 (datP (deriveF base a b) side train b xs).body.length c2 (u8s (datP (deriveF base a b) side train b xs).body) ∧ Has v54 (v51.heap.size) 30 (pdA (datP (deriveF base a b) side train b xs) A2 c2) ∧ Sl v54 1 A3 xs.length c3 (u8s xs) ∧ Below w.heap.size w v54) := Lib.hid ⟨s0.under hbn s0.lt, s1.under hbn s1.lt, s2.under hbn s2.lt, s3.under hbn s3.lt, s4.under hbn s4.lt, s5.under hbn, s6.under hbn s6.lt, s7.under hbn, s8.trans (hbn.mono s8.size)⟩
    clear s0 s1 s2 s3 s4 s5 s6 s7 s8
    clear HK HB11 HL0 HL1 HT2 hb1
    clear hbn
    obtain ⟨s0, s1, s2, s3, s4, s5, s6, s7, s8⟩ := HB12.out
    have HL0 := Lib.hid s3
    have HK := Lib.hid (HE.out v54)
    clear s0 s1 s2 s3 s4 s5 s6 s7 s8
    go_wp2_with (first | (with_reducible refine wpList_load_row (o := ⟨some 132, _, _, _, _, _⟩) rfl 26 _ rfl (v3.heap.size) rfl 26 (prA (upE side base train a b)) (0, 0) _ (HL0.out).raw Try.underlying26 rfl (by kernel_rfl) ?_))
    refine HK.out.mono ?_
    rintro e v55 ⟨A5, c5, rfl, hs5, _, hb1⟩
    obtain ⟨s0, s1, s2, s3, s4, s5, s6, s7, s8⟩ := HB12.out
    have hbn : Below v54.heap.size v54 v55 := hb1.out
    have HB13 : Hid (Has v55 (w.heap.size) 24 #[.int .u32 (base.a : Nat), .int .u32 (base.b : Nat), .int .u32 (base.c : Nat), .int .u32 (base.d : Nat)] ∧ Has v55 (v2.heap.size) 26 (prA (upX base train a b)) ∧ Has v55 (v2.heap.size + 1) 26 (prA (upY base train a b)) ∧ Has v55 (v3.heap.size) 26 (prA (upE side base train a b)) ∧ Has v55 (v4.heap.size) 26 (prA (upE (!side) base train a b)) ∧ Sl v55 1 A2 (datP (deriveF base a b) side train b xs).body.length c2 (u8s (datP (deriveF base a b) side train b xs).body) ∧ Has v55 (v51.heap.size) 30 (pdA (datP (deriveF base a b) side train b xs) A2 c2) ∧ Sl v55 1 A3 xs.length c3 (u8s xs) ∧ Below w.heap.size w v55) := Lib.hid ⟨s0.under hbn s0.lt, s1.under hbn s1.lt, s2.under hbn s2.lt, s3.under hbn s3.lt, s4.under hbn s4.lt, s5.under hbn, s6.under hbn s6.lt, s7.under hbn, s8.trans (hbn.mono s8.size)⟩
    clear s0 s1 s2 s3 s4 s5 s6 s7 s8
    clear HK HB12 HL0 HE hb1
    clear hbn
    obtain ⟨s0, s1, s2, s3, s4, s5, s6, s7, s8⟩ := HB13.out
    have HB14 : Hid (Has v55 (w.heap.size) 24 #[.int .u32 (base.a : Nat), .int .u32 (base.b : Nat), .int .u32 (base.c : Nat), .int .u32 (base.d : Nat)] ∧ Has v55 (v2.heap.size) 26 (prA (upX base train a b)) ∧ Has v55 (v2.heap.size + 1) 26 (prA (upY base train a b)) ∧ Has v55 (v3.heap.size) 26 (prA (upE side base train a b)) ∧ Has v55 (v4.heap.size) 26 (prA (upE (!side) base train a b)) ∧ Sl v55 1 A2 (datP (deriveF base a b) side train b xs).body.length c2 (u8s (datP (deriveF base a b) side train b xs).body) ∧ Has v55 (v51.heap.size) 30 (pdA (datP (deriveF base a b) side train b xs) A2 c2) ∧ Sl v55 1 A3 xs.length c3 (u8s xs) ∧ Sl v55 1 A5 (endP (deriveF base a b) side train b y).body.length c5 (u8s (endP (deriveF base a b) side train b y).body) ∧ Below w.heap.size w v55) := Lib.hid ⟨s0, s1, s2, s3, s4, s5, s6, s7, hs5.out, s8⟩
    clear s0 s1 s2 s3 s4 s5 s6 s7 s8
    clear HB13
    clear hs5
    obtain ⟨s0, s1, s2, s3, s4, s5, s6, s7, s8, s9⟩ := HB14.out
    have lt55_14 : v51.heap.size < v55.heap.size := s6.lt
    have le55_14 : w.heap.size ≤ v55.heap.size := s9.size
    have HS0 : Hid (Has ((v55.alloc (.cells #[.int .i64 0, .int .i64 0, .int .u32 0, .int .u32 0, .int .u32 0, .int .u32 0, .int .i64 0, .int .u32 0, .int .u32 0, .int .u32 0, .int .u32 0, .int .u32 0, .int .u32 0, .bool false, .int .u32 0, .int .u32 0] 26)).alloc (.cells #[.int .i64 0, .int .i64 0, .int .i64 0, .int .u32 0, .int .u32 0, .slice none 0 0, .int .u64 0] 30)) (v55.heap.size) 26 #[.int .i64 0, .int .i64 0, .int .u32 0, .int .u32 0, .int .u32 0, .int .u32 0, .int .i64 0, .int .u32 0, .int .u32 0, .int .u32 0, .int .u32 0, .int .u32 0, .int .u32 0, .bool false, .int .u32 0, .int .u32 0]) := Lib.hid (Has.beside (Has.made v55 26 #[.int .i64 0, .int .i64 0, .int .u32 0, .int .u32 0, .int .u32 0, .int .u32 0, .int .i64 0, .int .u32 0, .int .u32 0, .int .u32 0, .int .u32 0, .int .u32 0, .int .u32 0, .bool false, .int .u32 0, .int .u32 0]) (.cells #[.int .i64 0, .int .i64 0, .int .i64 0, .int .u32 0, .int .u32 0, .slice none 0 0, .int .u64 0] 30))
    have HS1 : Hid (Has (((v55.alloc (.cells #[.int .i64 0, .int .i64 0, .int .u32 0, .int .u32 0, .int .u32 0, .int .u32 0, .int .i64 0, .int .u32 0, .int .u32 0, .int .u32 0, .int .u32 0, .int .u32 0, .int .u32 0, .bool false, .int .u32 0, .int .u32 0] 26)).alloc (.cells #[.int .i64 0, .int .i64 0, .int .i64 0, .int .u32 0, .int .u32 0, .slice none 0 0, .int .u64 0] 30)).setRow (v55.heap.size) (prA (shClosed (upE side base train a b)))) (v55.heap.size + 1) 30 #[.int .i64 0, .int .i64 0, .int .i64 0, .int .u32 0, .int .u32 0, .slice none 0 0, .int .u64 0]) := Lib.hid (has_setRow_other7 (show Has ((v55.alloc (.cells #[.int .i64 0, .int .i64 0, .int .u32 0, .int .u32 0, .int .u32 0, .int .u32 0, .int .i64 0, .int .u32 0, .int .u32 0, .int .u32 0, .int .u32 0, .int .u32 0, .int .u32 0, .bool false, .int .u32 0, .int .u32 0] 26)).alloc (.cells #[.int .i64 0, .int .i64 0, .int .i64 0, .int .u32 0, .int .u32 0, .slice none 0 0, .int .u64 0] 30)) (v55.heap.size + 1) 30 #[.int .i64 0, .int .i64 0, .int .i64 0, .int .u32 0, .int .u32 0, .slice none 0 0, .int .u64 0] from has_at (by simp)) (by omega) (prA (shClosed (upE side base train a b))))
    obtain ⟨v56, hv56⟩ : ∃ v56, (((v55.alloc (.cells #[.int .i64 0, .int .i64 0, .int .u32 0, .int .u32 0, .int .u32 0, .int .u32 0, .int .i64 0, .int .u32 0, .int .u32 0, .int .u32 0, .int .u32 0, .int .u32 0, .int .u32 0, .bool false, .int .u32 0, .int .u32 0] 26)).alloc (.cells #[.int .i64 0, .int .i64 0, .int .i64 0, .int .u32 0, .int .u32 0, .slice none 0 0, .int .u64 0] 30)).setRow (v55.heap.size) (prA (shClosed (upE side base train a b)))).setRow (v55.heap.size + 1) (pdA (endP (deriveF base a b) side train b y) A5 c5) = v56 := ⟨_, rfl⟩
    have hbw : Below v55.heap.size v55 v56 := by rw [← hv56]; exact (below_row (g := v55.heap.size + 1) (below_row (g := v55.heap.size) (Below.alloc (Below.alloc (Below.refl v55.heap.size v55) (Nat.le_refl _) (.cells #[.int .i64 0, .int .i64 0, .int .u32 0, .int .u32 0, .int .u32 0, .int .u32 0, .int .i64 0, .int .u32 0, .int .u32 0, .int .u32 0, .int .u32 0, .int .u32 0, .int .u32 0, .bool false, .int .u32 0, .int .u32 0] 26)) (by simp) (.cells #[.int .i64 0, .int .i64 0, .int .i64 0, .int .u32 0, .int .u32 0, .slice none 0 0, .int .u64 0] 30)) (by omega) (prA (shClosed (upE side base train a b)))) (by omega) (pdA (endP (deriveF base a b) side train b y) A5 c5))
    have HB15 : Hid (Has v56 (w.heap.size) 24 #[.int .u32 (base.a : Nat), .int .u32 (base.b : Nat), .int .u32 (base.c : Nat), .int .u32 (base.d : Nat)] ∧ Has v56 (v2.heap.size) 26 (prA (upX base train a b)) ∧ Has v56 (v2.heap.size + 1) 26 (prA (upY base train a b)) ∧ Has v56 (v3.heap.size) 26 (prA (upE side base train a b)) ∧ Has v56 (v4.heap.size) 26 (prA (upE (!side) base train a b)) ∧ Sl v56 1 A2 (datP (deriveF base a b) side train b xs).body.length c2 (u8s (datP (deriveF base a b) side train b xs).body) ∧ Has v56 (v51.heap.size) 30 (pdA (datP (deriveF base a b) side train b xs) A2 c2) ∧ Sl v56 1 A3 xs.length c3 (u8s xs) ∧ Sl v56 1 A5 (endP (deriveF base a b) side train b y).body.length c5 (u8s (endP (deriveF base a b) side train b y).body) ∧ Has v56 (v55.heap.size) 26 (prA (shClosed (upE side base train a b))) ∧ Has v56 (v55.heap.size + 1) 30 (pdA (endP (deriveF base a b) side train b y) A5 c5) ∧ Below w.heap.size w v56) := Lib.hid ⟨s0.under hbw s0.lt, s1.under hbw s1.lt, s2.under hbw s2.lt, s3.under hbw s3.lt, s4.under hbw s4.lt, s5.under hbw, s6.under hbw s6.lt, s7.under hbw, s8.under hbw, (by rw [← hv56]; exact (has_setRow_other7 (has_setRow7 (Has.beside (Has.made v55 26 #[.int .i64 0, .int .i64 0, .int .u32 0, .int .u32 0, .int .u32 0, .int .u32 0, .int .i64 0, .int .u32 0, .int .u32 0, .int .u32 0, .int .u32 0, .int .u32 0, .int .u32 0, .bool false, .int .u32 0, .int .u32 0]) (.cells #[.int .i64 0, .int .i64 0, .int .i64 0, .int .u32 0, .int .u32 0, .slice none 0 0, .int .u64 0] 30)) (prA (shClosed (upE side base train a b)))) (by omega) (pdA (endP (deriveF base a b) side train b y) A5 c5))), (by rw [← hv56]; exact (has_setRow7 (has_setRow_other7 (show Has ((v55.alloc (.cells #[.int .i64 0, .int .i64 0, .int .u32 0, .int .u32 0, .int .u32 0, .int .u32 0, .int .i64 0, .int .u32 0, .int .u32 0, .int .u32 0, .int .u32 0, .int .u32 0, .int .u32 0, .bool false, .int .u32 0, .int .u32 0] 26)).alloc (.cells #[.int .i64 0, .int .i64 0, .int .i64 0, .int .u32 0, .int .u32 0, .slice none 0 0, .int .u64 0] 30)) (v55.heap.size + 1) 30 #[.int .i64 0, .int .i64 0, .int .i64 0, .int .u32 0, .int .u32 0, .slice none 0 0, .int .u64 0] from has_at (by simp)) (by omega) (prA (shClosed (upE side base train a b)))) (pdA (endP (deriveF base a b) side train b y) A5 c5))), s9.trans (hbw.mono s9.size)⟩
    clear hbw
    have HWv56 := Lib.hid hv56
    clear s0 s1 s2 s3 s4 s5 s6 s7 s8 s9
    clear hv56 HB14
    go_upto_region 16 with (first | (with_reducible refine wpList_store_rowTo (o := ⟨none, _, _, _, _, _⟩) rfl 26 _ _ rfl rfl (v55.heap.size) (prA (shClosed (upE side base train a b))) rfl rfl 26 _ (HS0.out).raw (by kernel_rfl) (by kernel_rfl) (by kernel_rfl) ?_) | (with_reducible refine wpList_store_rowTo (o := ⟨none, _, _, _, _, _⟩) rfl 30 _ _ rfl rfl (v55.heap.size + 1) (pdA (endP (deriveF base a b) side train b y) A5 c5) rfl rfl 30 _ (HS1.out).raw (by kernel_rfl) (by kernel_rfl) (by kernel_rfl) ?_))
    rw [HWv56.out]
    clear HWv56 HS0 HS1
    obtain ⟨s0, s1, s2, s3, s4, s5, s6, s7, s8, s9, s10, s11⟩ := HB15.out
    have HL0 := Lib.hid s4
    have HL1 := Lib.hid s10
    have HK := Lib.hid (HC.out A5 c5 v56 s8)
    clear s0 s1 s2 s3 s4 s5 s6 s7 s8 s9 s10 s11
    go_wp2_with (first | (with_reducible refine wpList_load_row (o := ⟨some 139, _, _, _, _, _⟩) rfl 26 _ rfl (v4.heap.size) rfl 26 (prA (upE (!side) base train a b)) (0, 0) _ (HL0.out).raw Try.underlying26 rfl (by kernel_rfl) ?_) | (with_reducible refine wpList_load_row (o := ⟨some 140, _, _, _, _, _⟩) rfl 30 _ rfl (v55.heap.size + 1) rfl 30 (pdA (endP (deriveF base a b) side train b y) A5 c5) (0, 0) _ (HL1.out).raw Try.underlying30 rfl (by kernel_rfl) ?_))
    refine HK.out.mono ?_
    rintro e v57 ⟨rfl, hb1⟩
    obtain ⟨s0, s1, s2, s3, s4, s5, s6, s7, s8, s9, s10, s11⟩ := HB15.out
    have hbn : Below v56.heap.size v56 v57 := hb1
    have HB16 : Hid (Has v57 (w.heap.size) 24 #[.int .u32 (base.a : Nat), .int .u32 (base.b : Nat), .int .u32 (base.c : Nat), .int .u32 (base.d : Nat)] ∧ Has v57 (v2.heap.size) 26 (prA (upX base train a b)) ∧ Has v57 (v2.heap.size + 1) 26 (prA (upY base train a b)) ∧ Has v57 (v3.heap.size) 26 (prA (upE side base train a b)) ∧ Has v57 (v4.heap.size) 26 (prA (upE (!side) base train a b)) ∧ Sl v57 1 A2 (datP (deriveF base a b) side train b xs).body.length c2 (u8s (datP (deriveF base a b) side train b xs).body) ∧ Has v57 (v51.heap.size) 30 (pdA (datP (deriveF base a b) side train b xs) A2 c2) ∧ Sl v57 1 A3 xs.length c3 (u8s xs) ∧ Sl v57 1 A5 (endP (deriveF base a b) side train b y).body.length c5 (u8s (endP (deriveF base a b) side train b y).body) ∧ Has v57 (v55.heap.size) 26 (prA (shClosed (upE side base train a b))) ∧ Has v57 (v55.heap.size + 1) 30 (pdA (endP (deriveF base a b) side train b y) A5 c5) ∧ Below w.heap.size w v57) := Lib.hid ⟨s0.under hbn s0.lt, s1.under hbn s1.lt, s2.under hbn s2.lt, s3.under hbn s3.lt, s4.under hbn s4.lt, s5.under hbn, s6.under hbn s6.lt, s7.under hbn, s8.under hbn, s9.under hbn s9.lt, s10.under hbn s10.lt, s11.trans (hbn.mono s11.size)⟩
    clear s0 s1 s2 s3 s4 s5 s6 s7 s8 s9 s10 s11
    clear HK HB15 HL0 HL1 HC hb1
    clear hbn
    obtain ⟨s0, s1, s2, s3, s4, s5, s6, s7, s8, s9, s10, s11⟩ := HB16.out
    have lt57_16 : v55.heap.size + 1 < v57.heap.size := s10.lt
    have le57_16 : w.heap.size ≤ v57.heap.size := s11.size
    have HS0 : Hid (Has (v57.alloc (.cells #[.int .i64 0, .int .i64 0, .int .u32 0, .int .u32 0, .int .u32 0, .int .u32 0, .int .i64 0, .int .u32 0, .int .u32 0, .int .u32 0, .int .u32 0, .int .u32 0, .int .u32 0, .bool false, .int .u32 0, .int .u32 0] 26)) (v57.heap.size) 26 #[.int .i64 0, .int .i64 0, .int .u32 0, .int .u32 0, .int .u32 0, .int .u32 0, .int .i64 0, .int .u32 0, .int .u32 0, .int .u32 0, .int .u32 0, .int .u32 0, .int .u32 0, .bool false, .int .u32 0, .int .u32 0]) := Lib.hid (Has.made v57 26 #[.int .i64 0, .int .i64 0, .int .u32 0, .int .u32 0, .int .u32 0, .int .u32 0, .int .i64 0, .int .u32 0, .int .u32 0, .int .u32 0, .int .u32 0, .int .u32 0, .int .u32 0, .bool false, .int .u32 0, .int .u32 0])
    obtain ⟨v58, hv58⟩ : ∃ v58, (v57.alloc (.cells #[.int .i64 0, .int .i64 0, .int .u32 0, .int .u32 0, .int .u32 0, .int .u32 0, .int .i64 0, .int .u32 0, .int .u32 0, .int .u32 0, .int .u32 0, .int .u32 0, .int .u32 0, .bool false, .int .u32 0, .int .u32 0] 26)).setRow (v57.heap.size) (prA (shClosed (upE (!side) base train a b))) = v58 := ⟨_, rfl⟩
    have hbw : Below v57.heap.size v57 v58 := by rw [← hv58]; exact (below_row (g := v57.heap.size) (Below.alloc (Below.refl v57.heap.size v57) (Nat.le_refl _) (.cells #[.int .i64 0, .int .i64 0, .int .u32 0, .int .u32 0, .int .u32 0, .int .u32 0, .int .i64 0, .int .u32 0, .int .u32 0, .int .u32 0, .int .u32 0, .int .u32 0, .int .u32 0, .bool false, .int .u32 0, .int .u32 0] 26)) (by omega) (prA (shClosed (upE (!side) base train a b))))
    have HB17 : Hid (Has v58 (w.heap.size) 24 #[.int .u32 (base.a : Nat), .int .u32 (base.b : Nat), .int .u32 (base.c : Nat), .int .u32 (base.d : Nat)] ∧ Has v58 (v2.heap.size) 26 (prA (upX base train a b)) ∧ Has v58 (v2.heap.size + 1) 26 (prA (upY base train a b)) ∧ Has v58 (v3.heap.size) 26 (prA (upE side base train a b)) ∧ Has v58 (v4.heap.size) 26 (prA (upE (!side) base train a b)) ∧ Sl v58 1 A2 (datP (deriveF base a b) side train b xs).body.length c2 (u8s (datP (deriveF base a b) side train b xs).body) ∧ Has v58 (v51.heap.size) 30 (pdA (datP (deriveF base a b) side train b xs) A2 c2) ∧ Sl v58 1 A3 xs.length c3 (u8s xs) ∧ Sl v58 1 A5 (endP (deriveF base a b) side train b y).body.length c5 (u8s (endP (deriveF base a b) side train b y).body) ∧ Has v58 (v55.heap.size) 26 (prA (shClosed (upE side base train a b))) ∧ Has v58 (v55.heap.size + 1) 30 (pdA (endP (deriveF base a b) side train b y) A5 c5) ∧ Has v58 (v57.heap.size) 26 (prA (shClosed (upE (!side) base train a b))) ∧ Below w.heap.size w v58) := Lib.hid ⟨s0.under hbw s0.lt, s1.under hbw s1.lt, s2.under hbw s2.lt, s3.under hbw s3.lt, s4.under hbw s4.lt, s5.under hbw, s6.under hbw s6.lt, s7.under hbw, s8.under hbw, s9.under hbw s9.lt, s10.under hbw s10.lt, (by rw [← hv58]; exact (has_setRow7 (Has.made v57 26 #[.int .i64 0, .int .i64 0, .int .u32 0, .int .u32 0, .int .u32 0, .int .u32 0, .int .i64 0, .int .u32 0, .int .u32 0, .int .u32 0, .int .u32 0, .int .u32 0, .int .u32 0, .bool false, .int .u32 0, .int .u32 0]) (prA (shClosed (upE (!side) base train a b))))), s11.trans (hbw.mono s11.size)⟩
    clear hbw
    have HWv58 := Lib.hid hv58
    clear s0 s1 s2 s3 s4 s5 s6 s7 s8 s9 s10 s11
    clear hv58 HB16
    go_upto_region 17 with (first | (with_reducible refine wpList_store_rowTo (o := ⟨none, _, _, _, _, _⟩) rfl 26 _ _ rfl rfl (v57.heap.size) (prA (shClosed (upE (!side) base train a b))) rfl rfl 26 _ (HS0.out).raw (by kernel_rfl) (by kernel_rfl) (by kernel_rfl) ?_))
    rw [HWv58.out]
    clear HWv58 HS0
    obtain ⟨s0, s1, s2, s3, s4, s5, s6, s7, s8, s9, s10, s11, s12⟩ := HB17.out
    have HL0 := Lib.hid s9
    have HK := Lib.hid (HZ.out v58 (HSL.out _ s12))
    clear s0 s1 s2 s3 s4 s5 s6 s7 s8 s9 s10 s11 s12
    go_wp2_with (first | (with_reducible refine wpList_load_row (o := ⟨some 145, _, _, _, _, _⟩) rfl 26 _ rfl (v55.heap.size) rfl 26 (prA (shClosed (upE side base train a b))) (0, 0) _ (HL0.out).raw Try.underlying26 rfl (by kernel_rfl) ?_))
    refine HK.out.mono ?_
    rintro e v59 ⟨A6, c6, rfl, _, _, hb1⟩
    obtain ⟨s0, s1, s2, s3, s4, s5, s6, s7, s8, s9, s10, s11, s12⟩ := HB17.out
    have hbn : Below v58.heap.size v58 v59 := hb1.out
    have HB18 : Hid (Has v59 (w.heap.size) 24 #[.int .u32 (base.a : Nat), .int .u32 (base.b : Nat), .int .u32 (base.c : Nat), .int .u32 (base.d : Nat)] ∧ Has v59 (v2.heap.size) 26 (prA (upX base train a b)) ∧ Has v59 (v2.heap.size + 1) 26 (prA (upY base train a b)) ∧ Has v59 (v3.heap.size) 26 (prA (upE side base train a b)) ∧ Has v59 (v4.heap.size) 26 (prA (upE (!side) base train a b)) ∧ Sl v59 1 A2 (datP (deriveF base a b) side train b xs).body.length c2 (u8s (datP (deriveF base a b) side train b xs).body) ∧ Has v59 (v51.heap.size) 30 (pdA (datP (deriveF base a b) side train b xs) A2 c2) ∧ Sl v59 1 A3 xs.length c3 (u8s xs) ∧ Sl v59 1 A5 (endP (deriveF base a b) side train b y).body.length c5 (u8s (endP (deriveF base a b) side train b y).body) ∧ Has v59 (v55.heap.size) 26 (prA (shClosed (upE side base train a b))) ∧ Has v59 (v55.heap.size + 1) 30 (pdA (endP (deriveF base a b) side train b y) A5 c5) ∧ Has v59 (v57.heap.size) 26 (prA (shClosed (upE (!side) base train a b))) ∧ Below w.heap.size w v59) := Lib.hid ⟨s0.under hbn s0.lt, s1.under hbn s1.lt, s2.under hbn s2.lt, s3.under hbn s3.lt, s4.under hbn s4.lt, s5.under hbn, s6.under hbn s6.lt, s7.under hbn, s8.under hbn, s9.under hbn s9.lt, s10.under hbn s10.lt, s11.under hbn s11.lt, s12.trans (hbn.mono s12.size)⟩
    clear s0 s1 s2 s3 s4 s5 s6 s7 s8 s9 s10 s11 s12
    clear HK HB17 HL0 HZ hb1
    clear hbn
    obtain ⟨s0, s1, s2, s3, s4, s5, s6, s7, s8, s9, s10, s11, s12⟩ := HB18.out
    have lt59_18 : v57.heap.size < v59.heap.size := s11.lt
    have le59_18 : w.heap.size ≤ v59.heap.size := s12.size
    have HS0 : Hid (Has (v59.alloc (.cells #[.int .i64 0, .int .i64 0, .int .i64 0, .int .u32 0, .int .u32 0, .slice none 0 0, .int .u64 0] 30)) (v59.heap.size) 30 #[.int .i64 0, .int .i64 0, .int .i64 0, .int .u32 0, .int .u32 0, .slice none 0 0, .int .u64 0]) := Lib.hid (Has.made v59 30 #[.int .i64 0, .int .i64 0, .int .i64 0, .int .u32 0, .int .u32 0, .slice none 0 0, .int .u64 0])
    obtain ⟨v60, hv60⟩ : ∃ v60, (v59.alloc (.cells #[.int .i64 0, .int .i64 0, .int .i64 0, .int .u32 0, .int .u32 0, .slice none 0 0, .int .u64 0] 30)).setRow (v59.heap.size) (pdA (pdZero) A6 c6) = v60 := ⟨_, rfl⟩
    have hbw : Below v59.heap.size v59 v60 := by rw [← hv60]; exact (below_row (g := v59.heap.size) (Below.alloc (Below.refl v59.heap.size v59) (Nat.le_refl _) (.cells #[.int .i64 0, .int .i64 0, .int .i64 0, .int .u32 0, .int .u32 0, .slice none 0 0, .int .u64 0] 30)) (by omega) (pdA (pdZero) A6 c6))
    have HB19 : Hid (Has v60 (w.heap.size) 24 #[.int .u32 (base.a : Nat), .int .u32 (base.b : Nat), .int .u32 (base.c : Nat), .int .u32 (base.d : Nat)] ∧ Has v60 (v2.heap.size) 26 (prA (upX base train a b)) ∧ Has v60 (v2.heap.size + 1) 26 (prA (upY base train a b)) ∧ Has v60 (v3.heap.size) 26 (prA (upE side base train a b)) ∧ Has v60 (v4.heap.size) 26 (prA (upE (!side) base train a b)) ∧ Sl v60 1 A2 (datP (deriveF base a b) side train b xs).body.length c2 (u8s (datP (deriveF base a b) side train b xs).body) ∧ Has v60 (v51.heap.size) 30 (pdA (datP (deriveF base a b) side train b xs) A2 c2) ∧ Sl v60 1 A3 xs.length c3 (u8s xs) ∧ Sl v60 1 A5 (endP (deriveF base a b) side train b y).body.length c5 (u8s (endP (deriveF base a b) side train b y).body) ∧ Has v60 (v55.heap.size) 26 (prA (shClosed (upE side base train a b))) ∧ Has v60 (v55.heap.size + 1) 30 (pdA (endP (deriveF base a b) side train b y) A5 c5) ∧ Has v60 (v57.heap.size) 26 (prA (shClosed (upE (!side) base train a b))) ∧ Has v60 (v59.heap.size) 30 (pdA (pdZero) A6 c6) ∧ Below w.heap.size w v60) := Lib.hid ⟨s0.under hbw s0.lt, s1.under hbw s1.lt, s2.under hbw s2.lt, s3.under hbw s3.lt, s4.under hbw s4.lt, s5.under hbw, s6.under hbw s6.lt, s7.under hbw, s8.under hbw, s9.under hbw s9.lt, s10.under hbw s10.lt, s11.under hbw s11.lt, (by rw [← hv60]; exact (has_setRow7 (Has.made v59 30 #[.int .i64 0, .int .i64 0, .int .i64 0, .int .u32 0, .int .u32 0, .slice none 0 0, .int .u64 0]) (pdA (pdZero) A6 c6))), s12.trans (hbw.mono s12.size)⟩
    clear hbw
    have HWv60 := Lib.hid hv60
    clear s0 s1 s2 s3 s4 s5 s6 s7 s8 s9 s10 s11 s12
    clear hv60 HB18
    go_upto_region 18 with (first | (with_reducible refine wpList_store_rowTo (o := ⟨none, _, _, _, _, _⟩) rfl 30 _ _ rfl rfl (v59.heap.size) (pdA (pdZero) A6 c6) rfl rfl 30 _ (HS0.out).raw (by kernel_rfl) (by kernel_rfl) (by kernel_rfl) ?_))
    rw [HWv60.out]
    clear HWv60 HS0
    obtain ⟨s0, s1, s2, s3, s4, s5, s6, s7, s8, s9, s10, s11, s12, s13⟩ := HB19.out
    have d3 : v60.cell? ⟨v57.heap.size, 6, none⟩ = some (.int .i64 0) := s11.cell 6
    have hv1 := conv8 A3 c3 xs v60 (sl_at8 s7)
    have hv2 := conv8 A c xs v60 (sl_at8 (HSL.out _ s13))
    have HBF := Lib.hid s13
    clear s0 s1 s2 s3 s4 s5 s6 s7 s8 s9 s10 s11 s12 s13
    have hse : ((str8 xs).toList == (str8 xs).toList) = true := by simp
    generalize str8 xs = S at *
    clear HB19 HSL HX8
    go_wp2
    go_ret
    exact ⟨by simp, HBF.out⟩
end Go.Proofs.Ytekcnmimfhiblaa
