/-
  linesidelaw10: both.
-/
import Derived.Test.YtekcnmimfhiblaaShOwn
import Derived.Test.YtekcnmimfhiblaaShThm
import Derived.Deep.DeepCutAuto
namespace Go.Proofs.Ytekcnmimfhiblaa
open Go.RowKit
open Go.Great

set_option maxRecDepth 100000 in
set_option maxHeartbeats 4000000 in
theorem both_up (base : Key4) (hbo : base.ok) (train : Int) (a b : Nat) (ha : a < 4294967296) (hb : b < 4294967296) (h0 : 0 ≤ train) (h1 : train ≤ 16777215) (w : World) :
    Calls Try.prog 27 #[keyV base, .int .i64 train, .int .u32 (a : Nat), .int .u32 (b : Nat)] w fun e w' => e = .returned (.tuple #[prV (upX base train a b), prV (upY base train a b), .bool true]) ∧ Below w.heap.size w w' := by
  have HA := Lib.hid (fun W => osh_ask (half0 base train) a (half0_ok hbo train) ha W)
  have HN := Lib.hid (fun W => osh_answer (half1 base train) (askP train a) none 0 b (half1_ok hbo train) ⟨ha, show 0 < 4294967296 by decide, fun x hx => (by cases hx), show 0 < 18446744073709551616 by decide⟩ (Nat.zero_le _) hb W (sl_nil _ _))
  have h2o : (ansP base train a b).ok := seal_ok hbo ⟨ha, hb, fun x hx => (by cases hx), show 0 < 18446744073709551616 by decide⟩
  have h2b : (ansP base train a b).body = [] := seal_bd _ _
  have h3o : (conP base train a b).ok := seal_ok hbo ⟨ha, hb, fun x hx => (by cases hx), show 0 < 18446744073709551616 by decide⟩
  have h3b : (conP base train a b).body = [] := seal_bd _ _
  have HC := Lib.hid (fun W => osh_confirm (askX base train a) (ansP base train a b) none 0 (askX_ok hbo train ha) h2o (by rw [h2b]; exact Nat.zero_le _) W (by rw [h2b]; exact sl_nil _ _))
  have HD := Lib.hid (fun W => osh_done (ansY base train a b) (conP base train a b) none 0 (ansY_ok hbo train ha hb) h3o (by rw [h3b]; exact Nat.zero_le _) W (by rw [h3b]; exact sl_nil _ _))
  rw [ask_up h0 h1] at HA
  rw [ans_up h0 h1] at HN
  rw [con_up h0 h1] at HC
  rw [don_up h0 h1] at HD
  unfold ShPost3 at HA HN HC
  unfold ShPost2 at HD
  clear h2o h2b h3o h3b hbo ha hb h0 h1
  obtain ⟨wa, hwa⟩ : ∃ wa, ((((w.alloc (.cells #[.int .u32 (base.a : Nat), .int .u32 (base.b : Nat), .int .u32 (base.c : Nat), .int .u32 (base.d : Nat)] 24)).alloc (.cells #[.int .i64 0, .int .i64 0, .int .u32 0, .int .u32 0, .int .u32 0, .int .u32 0, .int .i64 0, .int .u32 0, .int .u32 0, .int .u32 0, .int .u32 0, .int .u32 0, .int .u32 0, .bool false, .int .u32 0, .int .u32 0] 26)).alloc (.cells #[.int .i64 0, .int .i64 0, .int .u32 0, .int .u32 0, .int .u32 0, .int .u32 0, .int .i64 0, .int .u32 0, .int .u32 0, .int .u32 0, .int .u32 0, .int .u32 0, .int .u32 0, .bool false, .int .u32 0, .int .u32 0] 26)).alloc (.cells #[.int .i64 0, .int .i64 train, .int .u32 (base.a : Nat), .int .u32 (base.b : Nat), .int .u32 (base.c : Nat), .int .u32 (base.d : Nat), .int .i64 0, .int .u32 0, .int .u32 0, .int .u32 0, .int .u32 0, .int .u32 0, .int .u32 0, .bool false, .int .u32 0, .int .u32 0] 26)).alloc (.cells #[.int .i64 1, .int .i64 train, .int .u32 (base.a : Nat), .int .u32 (base.b : Nat), .int .u32 (base.c : Nat), .int .u32 (base.d : Nat), .int .i64 0, .int .u32 0, .int .u32 0, .int .u32 0, .int .u32 0, .int .u32 0, .int .u32 0, .bool false, .int .u32 0, .int .u32 0] 26) = wa := ⟨_, rfl⟩
  have hbwa : Below w.heap.size w wa := by rw [← hwa]; exact (((((Below.refl _ _).alloc (Nat.le_refl _) _).alloc (by simp) _).alloc (by simp; omega) _).alloc (by simp; omega) _).alloc (by simp; omega) _
  have h0 : Has wa (w.heap.size) 24 #[.int .u32 (base.a : Nat), .int .u32 (base.b : Nat), .int .u32 (base.c : Nat), .int .u32 (base.d : Nat)] := by rw [← hwa]; exact (((((Has.made _ _ _).beside _).beside _).beside _).beside _)
  have h1 : Has wa (w.heap.size + 1) 26 #[.int .i64 0, .int .i64 0, .int .u32 0, .int .u32 0, .int .u32 0, .int .u32 0, .int .i64 0, .int .u32 0, .int .u32 0, .int .u32 0, .int .u32 0, .int .u32 0, .int .u32 0, .bool false, .int .u32 0, .int .u32 0] := by rw [← hwa]; exact ((((has_at (by simp)).beside _).beside _).beside _)
  have h2 : Has wa (w.heap.size + 1 + 1) 26 #[.int .i64 0, .int .i64 0, .int .u32 0, .int .u32 0, .int .u32 0, .int .u32 0, .int .i64 0, .int .u32 0, .int .u32 0, .int .u32 0, .int .u32 0, .int .u32 0, .int .u32 0, .bool false, .int .u32 0, .int .u32 0] := by rw [← hwa]; exact (((has_at (by simp)).beside _).beside _)
  have h3 : Has wa (w.heap.size + 1 + 1 + 1) 26 #[.int .i64 0, .int .i64 train, .int .u32 (base.a : Nat), .int .u32 (base.b : Nat), .int .u32 (base.c : Nat), .int .u32 (base.d : Nat), .int .i64 0, .int .u32 0, .int .u32 0, .int .u32 0, .int .u32 0, .int .u32 0, .int .u32 0, .bool false, .int .u32 0, .int .u32 0] := by rw [← hwa]; exact ((has_at (by simp)).beside _)
  have h4 : Has wa (w.heap.size + 1 + 1 + 1 + 1) 26 #[.int .i64 1, .int .i64 train, .int .u32 (base.a : Nat), .int .u32 (base.b : Nat), .int .u32 (base.c : Nat), .int .u32 (base.d : Nat), .int .i64 0, .int .u32 0, .int .u32 0, .int .u32 0, .int .u32 0, .int .u32 0, .int .u32 0, .bool false, .int .u32 0, .int .u32 0] := by rw [← hwa]; exact (has_at (by simp))
  have HWA := Lib.hid hwa; have HBWA := Lib.hid hbwa
  have HB0 : Hid (Has wa (w.heap.size + 1) 26 #[.int .i64 0, .int .i64 0, .int .u32 0, .int .u32 0, .int .u32 0, .int .u32 0, .int .i64 0, .int .u32 0, .int .u32 0, .int .u32 0, .int .u32 0, .int .u32 0, .int .u32 0, .bool false, .int .u32 0, .int .u32 0] ∧ Has wa (w.heap.size + 1 + 1) 26 #[.int .i64 0, .int .i64 0, .int .u32 0, .int .u32 0, .int .u32 0, .int .u32 0, .int .i64 0, .int .u32 0, .int .u32 0, .int .u32 0, .int .u32 0, .int .u32 0, .int .u32 0, .bool false, .int .u32 0, .int .u32 0] ∧ Has wa (w.heap.size + 1 + 1 + 1) 26 (prA (half0 base train)) ∧ Has wa (w.heap.size + 1 + 1 + 1 + 1) 26 (prA (half1 base train)) ∧ Below w.heap.size w wa) := Lib.hid ⟨h1, h2, h3.is (by kernel_rfl), h4.is (by kernel_rfl), hbwa⟩
  unfold prV pdV at *
  unfold keyV keyA
  clear hwa hbwa h0 h1 h2 h3 h4
  go_enter Try.func27, Try.ntmps27
  go_upto_region 3 with fail
  rw [HWA.out]
  clear HWA
  obtain ⟨s0, s1, s2, s3, s4⟩ := HB0.out
  have HL0 := Lib.hid s2
  have HK := Lib.hid (HA.out wa)
  clear s0 s1 s2 s3 s4
  go_wp2_with (first | (with_reducible refine wpList_load_row (o := ⟨some 27, _, _, _, _, _⟩) rfl 26 _ rfl (w.heap.size + 1 + 1 + 1) rfl 26 (prA (half0 base train)) (0, 0) _ (HL0.out).raw Try.underlying26 rfl (by kernel_rfl) ?_))
  refine HK.out.mono ?_
  rintro e v1 ⟨rfl, hb1⟩
  obtain ⟨s0, s1, s2, s3, s4⟩ := HB0.out
  have hbn : Below wa.heap.size wa v1 := hb1
  have HB1 : Hid (Has v1 (w.heap.size + 1) 26 #[.int .i64 0, .int .i64 0, .int .u32 0, .int .u32 0, .int .u32 0, .int .u32 0, .int .i64 0, .int .u32 0, .int .u32 0, .int .u32 0, .int .u32 0, .int .u32 0, .int .u32 0, .bool false, .int .u32 0, .int .u32 0] ∧ Has v1 (w.heap.size + 1 + 1) 26 #[.int .i64 0, .int .i64 0, .int .u32 0, .int .u32 0, .int .u32 0, .int .u32 0, .int .i64 0, .int .u32 0, .int .u32 0, .int .u32 0, .int .u32 0, .int .u32 0, .int .u32 0, .bool false, .int .u32 0, .int .u32 0] ∧ Has v1 (w.heap.size + 1 + 1 + 1) 26 (prA (half0 base train)) ∧ Has v1 (w.heap.size + 1 + 1 + 1 + 1) 26 (prA (half1 base train)) ∧ Below w.heap.size w v1) := Lib.hid ⟨s0.under hbn s0.lt, s1.under hbn s1.lt, s2.under hbn s2.lt, s3.under hbn s3.lt, s4.trans (hbn.mono s4.size)⟩
  clear s0 s1 s2 s3 s4
  clear HK HB0 HL0 HA hb1
  clear hbn
  obtain ⟨s0, s1, s2, s3, s4⟩ := HB1.out
  have lt1_1 : w.heap.size + 1 + 1 + 1 + 1 < v1.heap.size := s3.lt
  have le1_1 : w.heap.size ≤ v1.heap.size := s4.size
  have HS0 : Hid (Has (v1.alloc (.cells #[.int .i64 0, .int .i64 0, .int .i64 0, .int .u32 0, .int .u32 0, .slice none 0 0, .int .u64 0] 30)) (w.heap.size + 1 + 1 + 1) 26 (prA (half0 base train))) := Lib.hid (Has.beside s2 (.cells #[.int .i64 0, .int .i64 0, .int .i64 0, .int .u32 0, .int .u32 0, .slice none 0 0, .int .u64 0] 30))
  have HS1 : Hid (Has ((v1.alloc (.cells #[.int .i64 0, .int .i64 0, .int .i64 0, .int .u32 0, .int .u32 0, .slice none 0 0, .int .u64 0] 30)).setRow (w.heap.size + 1 + 1 + 1) (prA (askX base train a))) (v1.heap.size) 30 #[.int .i64 0, .int .i64 0, .int .i64 0, .int .u32 0, .int .u32 0, .slice none 0 0, .int .u64 0]) := Lib.hid (has_setRow_other7 (Has.made v1 30 #[.int .i64 0, .int .i64 0, .int .i64 0, .int .u32 0, .int .u32 0, .slice none 0 0, .int .u64 0]) (by omega) (prA (askX base train a)))
  obtain ⟨v2, hv2⟩ : ∃ v2, ((v1.alloc (.cells #[.int .i64 0, .int .i64 0, .int .i64 0, .int .u32 0, .int .u32 0, .slice none 0 0, .int .u64 0] 30)).setRow (w.heap.size + 1 + 1 + 1) (prA (askX base train a))).setRow (v1.heap.size) (pdA (askP train a) none 0) = v2 := ⟨_, rfl⟩
  have HB2 : Hid (Has v2 (w.heap.size + 1) 26 #[.int .i64 0, .int .i64 0, .int .u32 0, .int .u32 0, .int .u32 0, .int .u32 0, .int .i64 0, .int .u32 0, .int .u32 0, .int .u32 0, .int .u32 0, .int .u32 0, .int .u32 0, .bool false, .int .u32 0, .int .u32 0] ∧ Has v2 (w.heap.size + 1 + 1) 26 #[.int .i64 0, .int .i64 0, .int .u32 0, .int .u32 0, .int .u32 0, .int .u32 0, .int .i64 0, .int .u32 0, .int .u32 0, .int .u32 0, .int .u32 0, .int .u32 0, .int .u32 0, .bool false, .int .u32 0, .int .u32 0] ∧ Has v2 (w.heap.size + 1 + 1 + 1) 26 (prA (askX base train a)) ∧ Has v2 (w.heap.size + 1 + 1 + 1 + 1) 26 (prA (half1 base train)) ∧ Has v2 (v1.heap.size) 30 (pdA (askP train a) none 0) ∧ Below w.heap.size w v2) := Lib.hid (by rw [← hv2]; exact ⟨(has_setRow_other7 (has_setRow_other7 (Has.beside s0 (.cells #[.int .i64 0, .int .i64 0, .int .i64 0, .int .u32 0, .int .u32 0, .slice none 0 0, .int .u64 0] 30)) (by omega) (prA (askX base train a))) (by omega) (pdA (askP train a) none 0)), (has_setRow_other7 (has_setRow_other7 (Has.beside s1 (.cells #[.int .i64 0, .int .i64 0, .int .i64 0, .int .u32 0, .int .u32 0, .slice none 0 0, .int .u64 0] 30)) (by omega) (prA (askX base train a))) (by omega) (pdA (askP train a) none 0)), (has_setRow_other7 (has_setRow7 (Has.beside s2 (.cells #[.int .i64 0, .int .i64 0, .int .i64 0, .int .u32 0, .int .u32 0, .slice none 0 0, .int .u64 0] 30)) (prA (askX base train a))) (by omega) (pdA (askP train a) none 0)), (has_setRow_other7 (has_setRow_other7 (Has.beside s3 (.cells #[.int .i64 0, .int .i64 0, .int .i64 0, .int .u32 0, .int .u32 0, .slice none 0 0, .int .u64 0] 30)) (by omega) (prA (askX base train a))) (by omega) (pdA (askP train a) none 0)), (has_setRow7 (has_setRow_other7 (Has.made v1 30 #[.int .i64 0, .int .i64 0, .int .i64 0, .int .u32 0, .int .u32 0, .slice none 0 0, .int .u64 0]) (by omega) (prA (askX base train a))) (pdA (askP train a) none 0)), (below_row (g := v1.heap.size) (below_row (g := w.heap.size + 1 + 1 + 1) (below_al9 s4 (.cells #[.int .i64 0, .int .i64 0, .int .i64 0, .int .u32 0, .int .u32 0, .slice none 0 0, .int .u64 0] 30)) (by omega) (prA (askX base train a))) (by omega) (pdA (askP train a) none 0))⟩)
  have HWv2 := Lib.hid hv2
  clear s0 s1 s2 s3 s4
  clear hv2 HB1
  go_upto_region 4 with (first | (with_reducible refine wpList_store_rowTo (o := ⟨none, _, _, _, _, _⟩) rfl 26 _ _ rfl rfl (w.heap.size + 1 + 1 + 1) (prA (askX base train a)) rfl rfl 26 _ (HS0.out).raw (by kernel_rfl) (by kernel_rfl) (by kernel_rfl) ?_) | (with_reducible refine wpList_store_rowTo (o := ⟨none, _, _, _, _, _⟩) rfl 30 _ _ rfl rfl (v1.heap.size) (pdA (askP train a) none 0) rfl rfl 30 _ (HS1.out).raw (by kernel_rfl) (by kernel_rfl) (by kernel_rfl) ?_))
  rw [HWv2.out]
  clear HWv2 HS0 HS1
  obtain ⟨s0, s1, s2, s3, s4, s5⟩ := HB2.out
  have HL0 := Lib.hid s3
  have HL1 := Lib.hid s4
  have HK := Lib.hid (HN.out v2)
  clear s0 s1 s2 s3 s4 s5
  go_wp2_with (first | (with_reducible refine wpList_load_row (o := ⟨some 34, _, _, _, _, _⟩) rfl 26 _ rfl (w.heap.size + 1 + 1 + 1 + 1) rfl 26 (prA (half1 base train)) (0, 0) _ (HL0.out).raw Try.underlying26 rfl (by kernel_rfl) ?_) | (with_reducible refine wpList_load_row (o := ⟨some 35, _, _, _, _, _⟩) rfl 30 _ rfl (v1.heap.size) rfl 30 (pdA (askP train a) none 0) (0, 0) _ (HL1.out).raw Try.underlying30 rfl (by kernel_rfl) ?_))
  refine HK.out.mono ?_
  rintro e v3 ⟨rfl, hb1⟩
  obtain ⟨s0, s1, s2, s3, s4, s5⟩ := HB2.out
  have hbn : Below v2.heap.size v2 v3 := hb1
  have HB3 : Hid (Has v3 (w.heap.size + 1) 26 #[.int .i64 0, .int .i64 0, .int .u32 0, .int .u32 0, .int .u32 0, .int .u32 0, .int .i64 0, .int .u32 0, .int .u32 0, .int .u32 0, .int .u32 0, .int .u32 0, .int .u32 0, .bool false, .int .u32 0, .int .u32 0] ∧ Has v3 (w.heap.size + 1 + 1) 26 #[.int .i64 0, .int .i64 0, .int .u32 0, .int .u32 0, .int .u32 0, .int .u32 0, .int .i64 0, .int .u32 0, .int .u32 0, .int .u32 0, .int .u32 0, .int .u32 0, .int .u32 0, .bool false, .int .u32 0, .int .u32 0] ∧ Has v3 (w.heap.size + 1 + 1 + 1) 26 (prA (askX base train a)) ∧ Has v3 (w.heap.size + 1 + 1 + 1 + 1) 26 (prA (half1 base train)) ∧ Has v3 (v1.heap.size) 30 (pdA (askP train a) none 0) ∧ Below w.heap.size w v3) := Lib.hid ⟨s0.under hbn s0.lt, s1.under hbn s1.lt, s2.under hbn s2.lt, s3.under hbn s3.lt, s4.under hbn s4.lt, s5.trans (hbn.mono s5.size)⟩
  clear s0 s1 s2 s3 s4 s5
  clear HK HB2 HL0 HL1 HN hb1
  clear hbn
  obtain ⟨s0, s1, s2, s3, s4, s5⟩ := HB3.out
  have lt3_3 : v1.heap.size < v3.heap.size := s4.lt
  have le3_3 : w.heap.size ≤ v3.heap.size := s5.size
  have HS0 : Hid (Has (v3.alloc (.cells #[.int .i64 0, .int .i64 0, .int .i64 0, .int .u32 0, .int .u32 0, .slice none 0 0, .int .u64 0] 30)) (w.heap.size + 1 + 1 + 1 + 1) 26 (prA (half1 base train))) := Lib.hid (Has.beside s3 (.cells #[.int .i64 0, .int .i64 0, .int .i64 0, .int .u32 0, .int .u32 0, .slice none 0 0, .int .u64 0] 30))
  have HS1 : Hid (Has ((v3.alloc (.cells #[.int .i64 0, .int .i64 0, .int .i64 0, .int .u32 0, .int .u32 0, .slice none 0 0, .int .u64 0] 30)).setRow (w.heap.size + 1 + 1 + 1 + 1) (prA (ansY base train a b))) (v3.heap.size) 30 #[.int .i64 0, .int .i64 0, .int .i64 0, .int .u32 0, .int .u32 0, .slice none 0 0, .int .u64 0]) := Lib.hid (has_setRow_other7 (Has.made v3 30 #[.int .i64 0, .int .i64 0, .int .i64 0, .int .u32 0, .int .u32 0, .slice none 0 0, .int .u64 0]) (by omega) (prA (ansY base train a b)))
  obtain ⟨v4, hv4⟩ : ∃ v4, ((v3.alloc (.cells #[.int .i64 0, .int .i64 0, .int .i64 0, .int .u32 0, .int .u32 0, .slice none 0 0, .int .u64 0] 30)).setRow (w.heap.size + 1 + 1 + 1 + 1) (prA (ansY base train a b))).setRow (v3.heap.size) (pdA (ansP base train a b) none 0) = v4 := ⟨_, rfl⟩
  have HB4 : Hid (Has v4 (w.heap.size + 1) 26 #[.int .i64 0, .int .i64 0, .int .u32 0, .int .u32 0, .int .u32 0, .int .u32 0, .int .i64 0, .int .u32 0, .int .u32 0, .int .u32 0, .int .u32 0, .int .u32 0, .int .u32 0, .bool false, .int .u32 0, .int .u32 0] ∧ Has v4 (w.heap.size + 1 + 1) 26 #[.int .i64 0, .int .i64 0, .int .u32 0, .int .u32 0, .int .u32 0, .int .u32 0, .int .i64 0, .int .u32 0, .int .u32 0, .int .u32 0, .int .u32 0, .int .u32 0, .int .u32 0, .bool false, .int .u32 0, .int .u32 0] ∧ Has v4 (w.heap.size + 1 + 1 + 1) 26 (prA (askX base train a)) ∧ Has v4 (w.heap.size + 1 + 1 + 1 + 1) 26 (prA (ansY base train a b)) ∧ Has v4 (v1.heap.size) 30 (pdA (askP train a) none 0) ∧ Has v4 (v3.heap.size) 30 (pdA (ansP base train a b) none 0) ∧ Below w.heap.size w v4) := Lib.hid (by rw [← hv4]; exact ⟨(has_setRow_other7 (has_setRow_other7 (Has.beside s0 (.cells #[.int .i64 0, .int .i64 0, .int .i64 0, .int .u32 0, .int .u32 0, .slice none 0 0, .int .u64 0] 30)) (by omega) (prA (ansY base train a b))) (by omega) (pdA (ansP base train a b) none 0)), (has_setRow_other7 (has_setRow_other7 (Has.beside s1 (.cells #[.int .i64 0, .int .i64 0, .int .i64 0, .int .u32 0, .int .u32 0, .slice none 0 0, .int .u64 0] 30)) (by omega) (prA (ansY base train a b))) (by omega) (pdA (ansP base train a b) none 0)), (has_setRow_other7 (has_setRow_other7 (Has.beside s2 (.cells #[.int .i64 0, .int .i64 0, .int .i64 0, .int .u32 0, .int .u32 0, .slice none 0 0, .int .u64 0] 30)) (by omega) (prA (ansY base train a b))) (by omega) (pdA (ansP base train a b) none 0)), (has_setRow_other7 (has_setRow7 (Has.beside s3 (.cells #[.int .i64 0, .int .i64 0, .int .i64 0, .int .u32 0, .int .u32 0, .slice none 0 0, .int .u64 0] 30)) (prA (ansY base train a b))) (by omega) (pdA (ansP base train a b) none 0)), (has_setRow_other7 (has_setRow_other7 (Has.beside s4 (.cells #[.int .i64 0, .int .i64 0, .int .i64 0, .int .u32 0, .int .u32 0, .slice none 0 0, .int .u64 0] 30)) (by omega) (prA (ansY base train a b))) (by omega) (pdA (ansP base train a b) none 0)), (has_setRow7 (has_setRow_other7 (Has.made v3 30 #[.int .i64 0, .int .i64 0, .int .i64 0, .int .u32 0, .int .u32 0, .slice none 0 0, .int .u64 0]) (by omega) (prA (ansY base train a b))) (pdA (ansP base train a b) none 0)), (below_row (g := v3.heap.size) (below_row (g := w.heap.size + 1 + 1 + 1 + 1) (below_al9 s5 (.cells #[.int .i64 0, .int .i64 0, .int .i64 0, .int .u32 0, .int .u32 0, .slice none 0 0, .int .u64 0] 30)) (by omega) (prA (ansY base train a b))) (by omega) (pdA (ansP base train a b) none 0))⟩)
  have HWv4 := Lib.hid hv4
  clear s0 s1 s2 s3 s4 s5
  clear hv4 HB3
  go_upto_region 5 with (first | (with_reducible refine wpList_store_rowTo (o := ⟨none, _, _, _, _, _⟩) rfl 26 _ _ rfl rfl (w.heap.size + 1 + 1 + 1 + 1) (prA (ansY base train a b)) rfl rfl 26 _ (HS0.out).raw (by kernel_rfl) (by kernel_rfl) (by kernel_rfl) ?_) | (with_reducible refine wpList_store_rowTo (o := ⟨none, _, _, _, _, _⟩) rfl 30 _ _ rfl rfl (v3.heap.size) (pdA (ansP base train a b) none 0) rfl rfl 30 _ (HS1.out).raw (by kernel_rfl) (by kernel_rfl) (by kernel_rfl) ?_))
  rw [HWv4.out]
  clear HWv4 HS0 HS1
  obtain ⟨s0, s1, s2, s3, s4, s5, s6⟩ := HB4.out
  have HL0 := Lib.hid s2
  have HL1 := Lib.hid s5
  have HK := Lib.hid (HC.out v4)
  clear s0 s1 s2 s3 s4 s5 s6
  go_wp2_with (first | (with_reducible refine wpList_load_row (o := ⟨some 42, _, _, _, _, _⟩) rfl 26 _ rfl (w.heap.size + 1 + 1 + 1) rfl 26 (prA (askX base train a)) (0, 0) _ (HL0.out).raw Try.underlying26 rfl (by kernel_rfl) ?_) | (with_reducible refine wpList_load_row (o := ⟨some 43, _, _, _, _, _⟩) rfl 30 _ rfl (v3.heap.size) rfl 30 (pdA (ansP base train a b) none 0) (0, 0) _ (HL1.out).raw Try.underlying30 rfl (by kernel_rfl) ?_))
  refine HK.out.mono ?_
  rintro e v5 ⟨rfl, hb1⟩
  obtain ⟨s0, s1, s2, s3, s4, s5, s6⟩ := HB4.out
  have hbn : Below v4.heap.size v4 v5 := hb1
  have HB5 : Hid (Has v5 (w.heap.size + 1) 26 #[.int .i64 0, .int .i64 0, .int .u32 0, .int .u32 0, .int .u32 0, .int .u32 0, .int .i64 0, .int .u32 0, .int .u32 0, .int .u32 0, .int .u32 0, .int .u32 0, .int .u32 0, .bool false, .int .u32 0, .int .u32 0] ∧ Has v5 (w.heap.size + 1 + 1) 26 #[.int .i64 0, .int .i64 0, .int .u32 0, .int .u32 0, .int .u32 0, .int .u32 0, .int .i64 0, .int .u32 0, .int .u32 0, .int .u32 0, .int .u32 0, .int .u32 0, .int .u32 0, .bool false, .int .u32 0, .int .u32 0] ∧ Has v5 (w.heap.size + 1 + 1 + 1) 26 (prA (askX base train a)) ∧ Has v5 (w.heap.size + 1 + 1 + 1 + 1) 26 (prA (ansY base train a b)) ∧ Has v5 (v1.heap.size) 30 (pdA (askP train a) none 0) ∧ Has v5 (v3.heap.size) 30 (pdA (ansP base train a b) none 0) ∧ Below w.heap.size w v5) := Lib.hid ⟨s0.under hbn s0.lt, s1.under hbn s1.lt, s2.under hbn s2.lt, s3.under hbn s3.lt, s4.under hbn s4.lt, s5.under hbn s5.lt, s6.trans (hbn.mono s6.size)⟩
  clear s0 s1 s2 s3 s4 s5 s6
  clear HK HB4 HL0 HL1 HC hb1
  clear hbn
  obtain ⟨s0, s1, s2, s3, s4, s5, s6⟩ := HB5.out
  have lt5_5 : v3.heap.size < v5.heap.size := s5.lt
  have le5_5 : w.heap.size ≤ v5.heap.size := s6.size
  have HS0 : Hid (Has (v5.alloc (.cells #[.int .i64 0, .int .i64 0, .int .i64 0, .int .u32 0, .int .u32 0, .slice none 0 0, .int .u64 0] 30)) (w.heap.size + 1 + 1 + 1) 26 (prA (askX base train a))) := Lib.hid (Has.beside s2 (.cells #[.int .i64 0, .int .i64 0, .int .i64 0, .int .u32 0, .int .u32 0, .slice none 0 0, .int .u64 0] 30))
  have HS1 : Hid (Has ((v5.alloc (.cells #[.int .i64 0, .int .i64 0, .int .i64 0, .int .u32 0, .int .u32 0, .slice none 0 0, .int .u64 0] 30)).setRow (w.heap.size + 1 + 1 + 1) (prA (upX base train a b))) (v5.heap.size) 30 #[.int .i64 0, .int .i64 0, .int .i64 0, .int .u32 0, .int .u32 0, .slice none 0 0, .int .u64 0]) := Lib.hid (has_setRow_other7 (Has.made v5 30 #[.int .i64 0, .int .i64 0, .int .i64 0, .int .u32 0, .int .u32 0, .slice none 0 0, .int .u64 0]) (by omega) (prA (upX base train a b)))
  obtain ⟨v6, hv6⟩ : ∃ v6, ((v5.alloc (.cells #[.int .i64 0, .int .i64 0, .int .i64 0, .int .u32 0, .int .u32 0, .slice none 0 0, .int .u64 0] 30)).setRow (w.heap.size + 1 + 1 + 1) (prA (upX base train a b))).setRow (v5.heap.size) (pdA (conP base train a b) none 0) = v6 := ⟨_, rfl⟩
  have HB6 : Hid (Has v6 (w.heap.size + 1) 26 #[.int .i64 0, .int .i64 0, .int .u32 0, .int .u32 0, .int .u32 0, .int .u32 0, .int .i64 0, .int .u32 0, .int .u32 0, .int .u32 0, .int .u32 0, .int .u32 0, .int .u32 0, .bool false, .int .u32 0, .int .u32 0] ∧ Has v6 (w.heap.size + 1 + 1) 26 #[.int .i64 0, .int .i64 0, .int .u32 0, .int .u32 0, .int .u32 0, .int .u32 0, .int .i64 0, .int .u32 0, .int .u32 0, .int .u32 0, .int .u32 0, .int .u32 0, .int .u32 0, .bool false, .int .u32 0, .int .u32 0] ∧ Has v6 (w.heap.size + 1 + 1 + 1) 26 (prA (upX base train a b)) ∧ Has v6 (w.heap.size + 1 + 1 + 1 + 1) 26 (prA (ansY base train a b)) ∧ Has v6 (v1.heap.size) 30 (pdA (askP train a) none 0) ∧ Has v6 (v3.heap.size) 30 (pdA (ansP base train a b) none 0) ∧ Has v6 (v5.heap.size) 30 (pdA (conP base train a b) none 0) ∧ Below w.heap.size w v6) := Lib.hid (by rw [← hv6]; exact ⟨(has_setRow_other7 (has_setRow_other7 (Has.beside s0 (.cells #[.int .i64 0, .int .i64 0, .int .i64 0, .int .u32 0, .int .u32 0, .slice none 0 0, .int .u64 0] 30)) (by omega) (prA (upX base train a b))) (by omega) (pdA (conP base train a b) none 0)), (has_setRow_other7 (has_setRow_other7 (Has.beside s1 (.cells #[.int .i64 0, .int .i64 0, .int .i64 0, .int .u32 0, .int .u32 0, .slice none 0 0, .int .u64 0] 30)) (by omega) (prA (upX base train a b))) (by omega) (pdA (conP base train a b) none 0)), (has_setRow_other7 (has_setRow7 (Has.beside s2 (.cells #[.int .i64 0, .int .i64 0, .int .i64 0, .int .u32 0, .int .u32 0, .slice none 0 0, .int .u64 0] 30)) (prA (upX base train a b))) (by omega) (pdA (conP base train a b) none 0)), (has_setRow_other7 (has_setRow_other7 (Has.beside s3 (.cells #[.int .i64 0, .int .i64 0, .int .i64 0, .int .u32 0, .int .u32 0, .slice none 0 0, .int .u64 0] 30)) (by omega) (prA (upX base train a b))) (by omega) (pdA (conP base train a b) none 0)), (has_setRow_other7 (has_setRow_other7 (Has.beside s4 (.cells #[.int .i64 0, .int .i64 0, .int .i64 0, .int .u32 0, .int .u32 0, .slice none 0 0, .int .u64 0] 30)) (by omega) (prA (upX base train a b))) (by omega) (pdA (conP base train a b) none 0)), (has_setRow_other7 (has_setRow_other7 (Has.beside s5 (.cells #[.int .i64 0, .int .i64 0, .int .i64 0, .int .u32 0, .int .u32 0, .slice none 0 0, .int .u64 0] 30)) (by omega) (prA (upX base train a b))) (by omega) (pdA (conP base train a b) none 0)), (has_setRow7 (has_setRow_other7 (Has.made v5 30 #[.int .i64 0, .int .i64 0, .int .i64 0, .int .u32 0, .int .u32 0, .slice none 0 0, .int .u64 0]) (by omega) (prA (upX base train a b))) (pdA (conP base train a b) none 0)), (below_row (g := v5.heap.size) (below_row (g := w.heap.size + 1 + 1 + 1) (below_al9 s6 (.cells #[.int .i64 0, .int .i64 0, .int .i64 0, .int .u32 0, .int .u32 0, .slice none 0 0, .int .u64 0] 30)) (by omega) (prA (upX base train a b))) (by omega) (pdA (conP base train a b) none 0))⟩)
  have HWv6 := Lib.hid hv6
  clear s0 s1 s2 s3 s4 s5 s6
  clear hv6 HB5
  go_upto_region 6 with (first | (with_reducible refine wpList_store_rowTo (o := ⟨none, _, _, _, _, _⟩) rfl 26 _ _ rfl rfl (w.heap.size + 1 + 1 + 1) (prA (upX base train a b)) rfl rfl 26 _ (HS0.out).raw (by kernel_rfl) (by kernel_rfl) (by kernel_rfl) ?_) | (with_reducible refine wpList_store_rowTo (o := ⟨none, _, _, _, _, _⟩) rfl 30 _ _ rfl rfl (v5.heap.size) (pdA (conP base train a b) none 0) rfl rfl 30 _ (HS1.out).raw (by kernel_rfl) (by kernel_rfl) (by kernel_rfl) ?_))
  rw [HWv6.out]
  clear HWv6 HS0 HS1
  obtain ⟨s0, s1, s2, s3, s4, s5, s6, s7⟩ := HB6.out
  have HL0 := Lib.hid s3
  have HL1 := Lib.hid s6
  have HK := Lib.hid (HD.out v6)
  clear s0 s1 s2 s3 s4 s5 s6 s7
  go_wp2_with (first | (with_reducible refine wpList_load_row (o := ⟨some 49, _, _, _, _, _⟩) rfl 26 _ rfl (w.heap.size + 1 + 1 + 1 + 1) rfl 26 (prA (ansY base train a b)) (0, 0) _ (HL0.out).raw Try.underlying26 rfl (by kernel_rfl) ?_) | (with_reducible refine wpList_load_row (o := ⟨some 50, _, _, _, _, _⟩) rfl 30 _ rfl (v5.heap.size) rfl 30 (pdA (conP base train a b) none 0) (0, 0) _ (HL1.out).raw Try.underlying30 rfl (by kernel_rfl) ?_))
  refine HK.out.mono ?_
  rintro e v7 ⟨rfl, hb1⟩
  obtain ⟨s0, s1, s2, s3, s4, s5, s6, s7⟩ := HB6.out
  have hbn : Below v6.heap.size v6 v7 := hb1
  have HB7 : Hid (Has v7 (w.heap.size + 1) 26 #[.int .i64 0, .int .i64 0, .int .u32 0, .int .u32 0, .int .u32 0, .int .u32 0, .int .i64 0, .int .u32 0, .int .u32 0, .int .u32 0, .int .u32 0, .int .u32 0, .int .u32 0, .bool false, .int .u32 0, .int .u32 0] ∧ Has v7 (w.heap.size + 1 + 1) 26 #[.int .i64 0, .int .i64 0, .int .u32 0, .int .u32 0, .int .u32 0, .int .u32 0, .int .i64 0, .int .u32 0, .int .u32 0, .int .u32 0, .int .u32 0, .int .u32 0, .int .u32 0, .bool false, .int .u32 0, .int .u32 0] ∧ Has v7 (w.heap.size + 1 + 1 + 1) 26 (prA (upX base train a b)) ∧ Has v7 (w.heap.size + 1 + 1 + 1 + 1) 26 (prA (ansY base train a b)) ∧ Has v7 (v1.heap.size) 30 (pdA (askP train a) none 0) ∧ Has v7 (v3.heap.size) 30 (pdA (ansP base train a b) none 0) ∧ Has v7 (v5.heap.size) 30 (pdA (conP base train a b) none 0) ∧ Below w.heap.size w v7) := Lib.hid ⟨s0.under hbn s0.lt, s1.under hbn s1.lt, s2.under hbn s2.lt, s3.under hbn s3.lt, s4.under hbn s4.lt, s5.under hbn s5.lt, s6.under hbn s6.lt, s7.trans (hbn.mono s7.size)⟩
  clear s0 s1 s2 s3 s4 s5 s6 s7
  clear HK HB6 HL0 HL1 HD hb1
  clear hbn
  obtain ⟨s0, s1, s2, s3, s4, s5, s6, s7⟩ := HB7.out
  have HS0 : Hid (Has v7 (w.heap.size + 1 + 1 + 1 + 1) 26 (prA (ansY base train a b))) := Lib.hid s3
  obtain ⟨v8, hv8⟩ : ∃ v8, v7.setRow (w.heap.size + 1 + 1 + 1 + 1) (prA (upY base train a b)) = v8 := ⟨_, rfl⟩
  have HB8 : Hid (Has v8 (w.heap.size + 1) 26 #[.int .i64 0, .int .i64 0, .int .u32 0, .int .u32 0, .int .u32 0, .int .u32 0, .int .i64 0, .int .u32 0, .int .u32 0, .int .u32 0, .int .u32 0, .int .u32 0, .int .u32 0, .bool false, .int .u32 0, .int .u32 0] ∧ Has v8 (w.heap.size + 1 + 1) 26 #[.int .i64 0, .int .i64 0, .int .u32 0, .int .u32 0, .int .u32 0, .int .u32 0, .int .i64 0, .int .u32 0, .int .u32 0, .int .u32 0, .int .u32 0, .int .u32 0, .int .u32 0, .bool false, .int .u32 0, .int .u32 0] ∧ Has v8 (w.heap.size + 1 + 1 + 1) 26 (prA (upX base train a b)) ∧ Has v8 (w.heap.size + 1 + 1 + 1 + 1) 26 (prA (upY base train a b)) ∧ Has v8 (v1.heap.size) 30 (pdA (askP train a) none 0) ∧ Has v8 (v3.heap.size) 30 (pdA (ansP base train a b) none 0) ∧ Has v8 (v5.heap.size) 30 (pdA (conP base train a b) none 0) ∧ Below w.heap.size w v8) := Lib.hid (by rw [← hv8]; exact ⟨(has_setRow_other7 s0 (by omega) (prA (upY base train a b))), (has_setRow_other7 s1 (by omega) (prA (upY base train a b))), (has_setRow_other7 s2 (by omega) (prA (upY base train a b))), (has_setRow7 s3 (prA (upY base train a b))), (has_setRow_other7 s4 (by omega) (prA (upY base train a b))), (has_setRow_other7 s5 (by omega) (prA (upY base train a b))), (has_setRow_other7 s6 (by omega) (prA (upY base train a b))), (below_row (g := w.heap.size + 1 + 1 + 1 + 1) s7 (by omega) (prA (upY base train a b)))⟩)
  have HWv8 := Lib.hid hv8
  clear s0 s1 s2 s3 s4 s5 s6 s7
  clear hv8 HB7
  go_upto_region 7 with (first | (with_reducible refine wpList_store_rowTo (o := ⟨none, _, _, _, _, _⟩) rfl 26 _ _ rfl rfl (w.heap.size + 1 + 1 + 1 + 1) (prA (upY base train a b)) rfl rfl 26 _ (HS0.out).raw (by kernel_rfl) (by kernel_rfl) (by kernel_rfl) ?_))
  rw [HWv8.out]
  clear HWv8 HS0
  go_cut [10] (fun sx wx => sx = .bool true ∧ Has wx (w.heap.size + 1 + 1 + 1) 26 (prA (upX base train a b)) ∧ Has wx (w.heap.size + 1 + 1 + 1 + 1) 26 (prA (upY base train a b)) ∧ Has wx (w.heap.size + 1) 26 (prA (upX base train a b)) ∧ Has wx (w.heap.size + 1 + 1) 26 (prA (upY base train a b)) ∧ Below w.heap.size w wx)
  case first =>
    obtain ⟨s0, s1, s2, s3, s4, s5, s6, s7⟩ := HB8.out
    refine wp_region_held_drew (S := (fun W_ => Has W_ (w.heap.size + 1 + 1 + 1) 26 (prA (upX base train a b)) ∧ Has W_ (w.heap.size + 1 + 1 + 1 + 1) 26 (prA (upY base train a b)) ∧ (∃ o_ : Array Value, Has W_ (w.heap.size + 1) 26 o_ ∧ o_.size = 16) ∧ (∃ o_ : Array Value, Has W_ (w.heap.size + 1 + 1) 26 o_ ∧ o_.size = 16) ∧ Below w.heap.size w W_)) (by kernel_rfl) ?_ (fun hHeld => ?_)
    · exact ⟨s2.draw, s3.draw, ⟨_, s0.draw, by kernel_rfl⟩, ⟨_, s1.draw, by kernel_rfl⟩, below_dr s7⟩
    clear s0 s1 s2 s3 s4 s5 s6 s7
    refine wpAnyH_take (i := 0) (oi := ⟨some 54, _, _, _, _, _⟩) (v := .agg (prA (upX base train a b))) rfl (by kernel_rfl) (by kernel_rfl) (by kernel_rfl) (fun _ _ _ h => h) (yields_load_row9 rfl 26 _ rfl (w.heap.size + 1 + 1 + 1) rfl 26 (prA (upX base train a b)) _ (fun _ ⟨h_, _, _, _, _⟩ => h_) Try.underlying26 rfl (by kernel_rfl) (by rfl)) (by assumption) ?_
    simp only [Act.put, List.setIfInBounds_toArray, List.set_cons_zero, List.set_cons_succ]
    refine wpAnyH_take (i := 1) (oi := ⟨some 55, _, _, _, _, _⟩) (v := .agg (prA (upY base train a b))) rfl (by kernel_rfl) (by kernel_rfl) (by kernel_rfl) (fun _ _ _ h => h) (yields_load_row9 rfl 26 _ rfl (w.heap.size + 1 + 1 + 1 + 1) rfl 26 (prA (upY base train a b)) _ (fun _ ⟨_, h_, _, _, _⟩ => h_) Try.underlying26 rfl (by kernel_rfl) (by rfl)) (by assumption) ?_
    simp only [Act.put, List.setIfInBounds_toArray, List.set_cons_zero, List.set_cons_succ]
    refine wpAnyH_take (i := 2) (oi := ⟨some 56, _, _, _, _, _⟩) (v := ?_) rfl (by kernel_rfl) (by kernel_rfl) (by kernel_rfl) (fun _ _ _ h => h) (Or.inl ⟨by rfl, ?_⟩) (by assumption) ?_
    rotate_left
    · intro w_ hSw; (try dsimp only at hSw); go_simp <;> with_reducible rfl
    simp only [Act.put, List.setIfInBounds_toArray, List.set_cons_zero, List.set_cons_succ]
    refine wpAnyH_take (i := 3) (oi := ⟨some 57, _, _, _, _, _⟩) (v := ?_) rfl (by kernel_rfl) (by kernel_rfl) (by kernel_rfl) (fun _ _ _ h => h) (Or.inl ⟨by rfl, ?_⟩) (by assumption) ?_
    rotate_left
    · intro w_ hSw; (try dsimp only at hSw); go_simp <;> with_reducible rfl
    simp only [Act.put, List.setIfInBounds_toArray, List.set_cons_zero, List.set_cons_succ]
    refine wpAnyH_take (i := 4) (oi := ⟨some 58, _, _, _, _, _⟩) (v := ?_) rfl (by kernel_rfl) (by kernel_rfl) (by kernel_rfl) (fun _ _ _ h => h) (Or.inl ⟨by rfl, ?_⟩) (by assumption) ?_
    rotate_left
    · intro w_ hSw; (try dsimp only at hSw); go_simp <;> with_reducible rfl
    simp only [Act.put, List.setIfInBounds_toArray, List.set_cons_zero, List.set_cons_succ]
    refine wpAnyH_take (i := 5) (oi := ⟨some 59, _, _, _, _, _⟩) (v := ?_) rfl (by kernel_rfl) (by kernel_rfl) (by kernel_rfl) (fun _ _ _ h => h) (Or.inl ⟨by rfl, ?_⟩) (by assumption) ?_
    rotate_left
    · intro w_ hSw; (try dsimp only at hSw); go_simp <;> with_reducible rfl
    simp only [Act.put, List.setIfInBounds_toArray, List.set_cons_zero, List.set_cons_succ]
    refine wpAnyH_take (i := 6) (oi := ⟨some 60, _, _, _, _, _⟩) (v := ?_) rfl (by kernel_rfl) (by kernel_rfl) (by kernel_rfl) (fun _ _ _ h => h) (Or.inl ⟨by rfl, ?_⟩) (by assumption) ?_
    rotate_left
    · intro w_ hSw; (try dsimp only at hSw); go_simp <;> with_reducible rfl
    simp only [Act.put, List.setIfInBounds_toArray, List.set_cons_zero, List.set_cons_succ]
    refine wpAnyH_take (i := 7) (oi := ⟨some 61, _, _, _, _, _⟩) (v := ?_) rfl (by kernel_rfl) (by kernel_rfl) (by kernel_rfl) (fun _ _ _ h => h) (Or.inl ⟨by rfl, ?_⟩) (by assumption) ?_
    rotate_left
    · intro w_ hSw; (try dsimp only at hSw); go_simp <;> with_reducible rfl
    simp only [Act.put, List.setIfInBounds_toArray, List.set_cons_zero, List.set_cons_succ]
    refine wpAnyH_take (i := 8) (oi := ⟨some 62, _, _, _, _, _⟩) (v := ?_) rfl (by kernel_rfl) (by kernel_rfl) (by kernel_rfl) (fun _ _ _ h => h) (Or.inl ⟨by rfl, ?_⟩) (by assumption) ?_
    rotate_left
    · intro w_ hSw; (try dsimp only at hSw); go_simp <;> with_reducible rfl
    simp only [Act.put, List.setIfInBounds_toArray, List.set_cons_zero, List.set_cons_succ]
    refine wpAnyH_take (i := 9) (oi := ⟨some 63, _, _, _, _, _⟩) (v := ?_) rfl (by kernel_rfl) (by kernel_rfl) (by kernel_rfl) (fun _ _ _ h => h) (Or.inl ⟨by rfl, ?_⟩) (by assumption) ?_
    rotate_left
    · intro w_ hSw; (try dsimp only at hSw); go_simp <;> with_reducible rfl
    simp only [Act.put, List.setIfInBounds_toArray, List.set_cons_zero, List.set_cons_succ]
    refine wpAnyH_take (i := 10) (oi := ⟨some 64, _, _, _, _, _⟩) (v := ?_) rfl (by kernel_rfl) (by kernel_rfl) (by kernel_rfl) (fun _ _ _ h => h) (Or.inl ⟨by rfl, ?_⟩) (by assumption) ?_
    rotate_left
    · intro w_ hSw; (try dsimp only at hSw); go_simp <;> with_reducible rfl
    simp only [Act.put, List.setIfInBounds_toArray, List.set_cons_zero, List.set_cons_succ]
    refine wpAnyH_take (i := 11) (oi := ⟨some 65, _, _, _, _, _⟩) (v := ?_) rfl (by kernel_rfl) (by kernel_rfl) (by kernel_rfl) (fun _ _ _ h => h) (Or.inl ⟨by rfl, ?_⟩) (by assumption) ?_
    rotate_left
    · intro w_ hSw; (try dsimp only at hSw); go_simp <;> with_reducible rfl
    simp only [Act.put, List.setIfInBounds_toArray, List.set_cons_zero, List.set_cons_succ]
    refine wpAnyH_take (i := 12) (oi := ⟨some 66, _, _, _, _, _⟩) (v := ?_) rfl (by kernel_rfl) (by kernel_rfl) (by kernel_rfl) (fun _ _ _ h => h) (Or.inl ⟨by rfl, ?_⟩) (by assumption) ?_
    rotate_left
    · intro w_ hSw; (try dsimp only at hSw); go_simp <;> with_reducible rfl
    simp only [Act.put, List.setIfInBounds_toArray, List.set_cons_zero, List.set_cons_succ]
    refine wpAnyH_take (i := 13) (oi := ⟨some 67, _, _, _, _, _⟩) (v := ?_) rfl (by kernel_rfl) (by kernel_rfl) (by kernel_rfl) (fun _ _ _ h => h) (Or.inl ⟨by rfl, ?_⟩) (by assumption) ?_
    rotate_left
    · intro w_ hSw; (try dsimp only at hSw); go_simp <;> with_reducible rfl
    simp only [Act.put, List.setIfInBounds_toArray, List.set_cons_zero, List.set_cons_succ]
    refine wpAnyH_take (i := 14) (oi := ⟨some 68, _, _, _, _, _⟩) (v := ?_) rfl (by kernel_rfl) (by kernel_rfl) (by kernel_rfl) (fun _ _ _ h => h) (Or.inl ⟨by rfl, ?_⟩) (by assumption) ?_
    rotate_left
    · intro w_ hSw; (try dsimp only at hSw); go_simp <;> with_reducible rfl
    simp only [Act.put, List.setIfInBounds_toArray, List.set_cons_zero, List.set_cons_succ]
    refine wpAnyH_take (i := 15) (oi := ⟨some 69, _, _, _, _, _⟩) (v := ?_) rfl (by kernel_rfl) (by kernel_rfl) (by kernel_rfl) (fun _ _ _ h => h) (Or.inl ⟨by rfl, ?_⟩) (by assumption) ?_
    rotate_left
    · intro w_ hSw; (try dsimp only at hSw); go_simp <;> with_reducible rfl
    simp only [Act.put, List.setIfInBounds_toArray, List.set_cons_zero, List.set_cons_succ]
    refine wpAnyH_ready (rs := [16]) (by kernel_rfl) (by simp) ?_
    refine AllReadyH.cons (o := ⟨none, _, _, _, _, _⟩) rfl (fun K hK => ?_) ?_
    · rw [if_pos (by rfl)]
      obtain ⟨s0, s1, s2, s3, s4⟩ := hHeld
      obtain ⟨o_, h_, e_⟩ := s2
      refine wp_store_row 26 _ _ rfl (w.heap.size + 1) (prA (upX base train a b)) (by rfl) (by rfl) 26 o_ h_.raw (by kernel_rfl) e_ (by kernel_rfl) ?_
      refine hK.out _ _ ?_ (fun hHeld => ?_)
      · exact ⟨has_setRow_other7 s0 (by omega) _, has_setRow_other7 s1 (by omega) _, ⟨_, has_setRow7 h_ (prA (upX base train a b)), by kernel_rfl⟩, (let ⟨o_, h_, e_⟩ := s3; ⟨o_, has_setRow_other7 h_ (by omega) _, e_⟩), below_row s4 (by omega) _⟩
      refine wpAnyH_more (T := (fun W_ => Has W_ (w.heap.size + 1 + 1 + 1) 26 (prA (upX base train a b)) ∧ Has W_ (w.heap.size + 1 + 1 + 1 + 1) 26 (prA (upY base train a b)) ∧ Has W_ (w.heap.size + 1) 26 (prA (upX base train a b)) ∧ (∃ o_ : Array Value, Has W_ (w.heap.size + 1 + 1) 26 o_ ∧ o_.size = 16) ∧ Below w.heap.size w W_)) (fun _ ⟨s0, s1, s2, s3, s4⟩ => ⟨s0, s1, ⟨_, s2, by kernel_rfl⟩, s3, s4⟩) ?_
      have hHeld2 : (fun W_ => Has W_ (w.heap.size + 1 + 1 + 1) 26 (prA (upX base train a b)) ∧ Has W_ (w.heap.size + 1 + 1 + 1 + 1) 26 (prA (upY base train a b)) ∧ Has W_ (w.heap.size + 1) 26 (prA (upX base train a b)) ∧ (∃ o_ : Array Value, Has W_ (w.heap.size + 1 + 1) 26 o_ ∧ o_.size = 16) ∧ Below w.heap.size w W_) _ := ⟨has_setRow_other7 s0 (by omega) _, has_setRow_other7 s1 (by omega) _, has_setRow7 h_ (prA (upX base train a b)), (let ⟨o_, h_, e_⟩ := s3; ⟨o_, has_setRow_other7 h_ (by omega) _, e_⟩), below_row s4 (by omega) _⟩
      clear hHeld
      have hHeld := hHeld2
      clear hHeld2 hK K h_ e_ s0 s1 s3 s4
      try simp only [Act.put]
      refine wpAnyH_ready (rs := [17]) (by kernel_rfl) (by simp) ?_
      refine AllReadyH.cons (o := ⟨none, _, _, _, _, _⟩) rfl (fun K hK => ?_) ?_
      · rw [if_pos (by rfl)]
        obtain ⟨s0, s1, s2, s3, s4⟩ := hHeld
        obtain ⟨o_, h_, e_⟩ := s3
        refine wp_store_row 26 _ _ rfl (w.heap.size + 1 + 1) (prA (upY base train a b)) (by rfl) (by rfl) 26 o_ h_.raw (by kernel_rfl) e_ (by kernel_rfl) ?_
        refine hK.out _ _ ?_ (fun hHeld => ?_)
        · exact ⟨has_setRow_other7 s0 (by omega) _, has_setRow_other7 s1 (by omega) _, has_setRow_other7 s2 (by omega) _, ⟨_, has_setRow7 h_ (prA (upY base train a b)), by kernel_rfl⟩, below_row s4 (by omega) _⟩
        refine wpAnyH_more (T := (fun W_ => Has W_ (w.heap.size + 1 + 1 + 1) 26 (prA (upX base train a b)) ∧ Has W_ (w.heap.size + 1 + 1 + 1 + 1) 26 (prA (upY base train a b)) ∧ Has W_ (w.heap.size + 1) 26 (prA (upX base train a b)) ∧ Has W_ (w.heap.size + 1 + 1) 26 (prA (upY base train a b)) ∧ Below w.heap.size w W_)) (fun _ ⟨s0, s1, s2, s3, s4⟩ => ⟨s0, s1, s2, ⟨_, s3, by kernel_rfl⟩, s4⟩) ?_
        have hHeld2 : (fun W_ => Has W_ (w.heap.size + 1 + 1 + 1) 26 (prA (upX base train a b)) ∧ Has W_ (w.heap.size + 1 + 1 + 1 + 1) 26 (prA (upY base train a b)) ∧ Has W_ (w.heap.size + 1) 26 (prA (upX base train a b)) ∧ Has W_ (w.heap.size + 1 + 1) 26 (prA (upY base train a b)) ∧ Below w.heap.size w W_) _ := ⟨has_setRow_other7 s0 (by omega) _, has_setRow_other7 s1 (by omega) _, has_setRow_other7 s2 (by omega) _, has_setRow7 h_ (prA (upY base train a b)), below_row s4 (by omega) _⟩
        clear hHeld
        have hHeld := hHeld2
        clear hHeld2 hK K h_ e_ s0 s1 s2 s4
        try simp only [Act.put]
        refine wpAnyH_take (i := 18) (oi := ⟨some 10, _, _, _, _, _⟩) (v := ?_) rfl (by kernel_rfl) (by kernel_rfl) (by kernel_rfl) (fun _ _ _ h => h) (Or.inl ⟨by rfl, ?_⟩) (by assumption) ?_
        rotate_left
        · intro w_ hSw; (try dsimp only at hSw); go_simp <;> with_reducible rfl
        simp only [Act.put, List.setIfInBounds_toArray, List.set_cons_zero, List.set_cons_succ]
        refine wpAnyH_done (by kernel_rfl) ?_ _
        go_wp2_with fail
        go_meet
        exact ⟨rfl, hHeld⟩
      exact AllReadyH.nil
    exact AllReadyH.nil
  case rest =>
    obtain ⟨rfl, _, _, hy1, hy2, hyb⟩ := hcut
    have HZ1 := Lib.hid hy1; have HZ2 := Lib.hid hy2; have HZB := Lib.hid hyb
    clear hy1 hy2 hyb
    go_wp2
    refine bodyPost_ret (results_cct9 rfl _ _ (w.heap.size + 1) (w.heap.size + 1 + 1) 26 26 _ _ _ _ rfl HZ1.out Try.underlying26 rfl (by kernel_rfl) rfl HZ2.out Try.underlying26 rfl (by kernel_rfl)) rfl ?_
    exact ⟨rfl, HZB.out⟩
end Go.Proofs.Ytekcnmimfhiblaa
