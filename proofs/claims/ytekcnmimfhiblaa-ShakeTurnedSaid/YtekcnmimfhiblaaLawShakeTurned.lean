/-
  linesidelaw10.ShakeTurned, walked.
-/
import Derived.Test.YtekcnmimfhiblaaLawShakePasses
import Derived.Test.YtekcnmimfhiblaaShStray
import Derived.Test.YtekcnmimfhiblaaTurned10
import Derived.Deep.DeepCutAuto
namespace Go.Proofs.Ytekcnmimfhiblaa
open Go.RowKit
open Go.Great

theorem came_bad {p : Peer} {q : Pdu} {k : Int} (h : ¬ pdRight p.key q) : shCame p q k ≠ 0 := by
  unfold shCame
  rw [if_neg h]
  split <;> (try split) <;> (try split) <;> decide
theorem take_bad {p : Peer} {q : Pdu} (h : ¬ pdRight p.key q) : (shTake p q).2 ≠ 0 := by
  unfold shTake
  rw [if_neg (came_bad h)]
  exact came_bad h
theorem close_bad {p : Peer} {q : Pdu} (h : ¬ pdRight p.key q) : (shClose p q).2 ≠ 0 := by
  unfold shClose
  rw [if_neg (came_bad h)]
  exact came_bad h
theorem con_bad {p : Peer} {q : Pdu} (h : ¬ pdRight p.base q) : (shConfirm p q).2.2 ≠ 0 := by
  unfold shConfirm
  rw [if_neg h]
  split <;> (try split) <;> (try split) <;> decide

set_option maxRecDepth 100000 in
set_option maxHeartbeats 4000000 in
theorem shakeTurned_at (base : Key4) (train : Int) (a b : Nat) (A : Option Addr) (n c : Nat) (xs : List Nat) (at_ : Int) (y : Nat) (w : World) (hbo : base.ok) (hta : -9223372036854775808 ≤ train) (htb : train ≤ 9223372036854775807) (ha : a < 4294967296) (hb : b < 4294967296) (hin : InBody w A n c xs) (ha1 : -9223372036854775808 ≤ at_) (ha2 : at_ ≤ 9223372036854775807) (hy : y < 256) :
    Calls Try.prog 7 #[keyV base, .int .i64 train, .int .u32 (a : Nat), .int .u32 (b : Nat), .slice A n c, .int .i64 at_, .int .u8 (y : Nat)] w fun e w' => e = .returned (.bool true) ∧ Below w.heap.size w w' := by
  obtain ⟨rfl, hcap, hlm, hs, hx8⟩ := hin
  unfold maxLen at hlm
  obtain ⟨wa, hwa⟩ : ∃ wa, w.alloc (.cells #[.int .u32 (base.a : Nat), .int .u32 (base.b : Nat), .int .u32 (base.c : Nat), .int .u32 (base.d : Nat)] 24) = wa := ⟨_, rfl⟩
  have hbwa : Below w.heap.size w wa := by rw [← hwa]; exact (Below.refl _ _).alloc (Nat.le_refl _) _
  have h0 : Has wa (w.heap.size) 24 #[.int .u32 (base.a : Nat), .int .u32 (base.b : Nat), .int .u32 (base.c : Nat), .int .u32 (base.d : Nat)] := by rw [← hwa]; exact (Has.made _ _ _)
  have HWA := Lib.hid hwa; have HBWA := Lib.hid hbwa
  have HSL := Lib.hid (fun W (hW : Below w.heap.size w W) => Sl.under hs hW)
  have HX8 := Lib.hid hx8
  have HB0 : Hid (Has wa (w.heap.size) 24 #[.int .u32 (base.a : Nat), .int .u32 (base.b : Nat), .int .u32 (base.c : Nat), .int .u32 (base.d : Nat)] ∧ Below w.heap.size w wa) := Lib.hid ⟨h0, hbwa⟩
  have HAW := Lib.hid (awake10_any wa)
  clear hwa hbwa h0 hs hx8 HBWA
  unfold keyV keyA
  go_enter Try.func7, Try.ntmps7
  go_upto_region 1 with fail
  rw [HWA.out]
  clear HWA
  obtain ⟨s0, s1⟩ := HB0.out
  have HK := Lib.hid (HAW.out)
  clear s0 s1
  go_wp2_with fail
  refine HK.out.mono ?_
  rintro e v1 ⟨rfl, hb1⟩
  obtain ⟨s0, s1⟩ := HB0.out
  have hbn : Below wa.heap.size wa v1 := hb1
  have HB1 : Hid (Has v1 (w.heap.size) 24 #[.int .u32 (base.a : Nat), .int .u32 (base.b : Nat), .int .u32 (base.c : Nat), .int .u32 (base.d : Nat)] ∧ Below w.heap.size w v1) := Lib.hid ⟨s0.under hbn s0.lt, s1.trans (hbn.mono s1.size)⟩
  clear s0 s1
  clear HK HB0 HAW hb1
  clear hbn
  by_cases hgo : 1 ≤ xs.length ∧ xs.length ≤ 1023 ∧ 0 ≤ train ∧ train ≤ 16777215 ∧ y ≠ 0
  rotate_left
  · have hno : (xs.length : Int) < 1 ∨ (¬ (xs.length : Int) < 1 ∧ (1023 : Int) < (xs.length : Int)) ∨ (¬ (xs.length : Int) < 1 ∧ ¬ (1023 : Int) < (xs.length : Int) ∧ train < 0) ∨ (¬ (xs.length : Int) < 1 ∧ ¬ (1023 : Int) < (xs.length : Int) ∧ ¬ train < 0 ∧ (16777216 : Int) ≤ train) ∨ (¬ (xs.length : Int) < 1 ∧ ¬ (1023 : Int) < (xs.length : Int) ∧ ¬ train < 0 ∧ ¬ (16777216 : Int) ≤ train ∧ y = 0) := by omega
    obtain ⟨s0, s1⟩ := HB1.out
    have HBF := Lib.hid s1
    clear s0 s1 HB1 HSL HX8 hgo
    rcases hno with h1 | ⟨h1, h2⟩ | ⟨h1, h2, h3⟩ | ⟨h1, h2, h3, h4⟩ | ⟨h1, h2, h3, h4, rfl⟩
    all_goals
      go_wp2
      go_ret
      exact ⟨rfl, HBF.out⟩
  obtain ⟨hl1, hl2, ht0, ht1, hy0⟩ := hgo
  have x1 : ¬ (xs.length : Int) < 1 := by omega
  have x2 : ¬ (1023 : Int) < (xs.length : Int) := by omega
  have x3 : ¬ train < 0 := by omega
  have x4 : ¬ (16777216 : Int) ≤ train := by omega
  have HAB := Lib.hid (sl_block9 (HSL.out w (Below.refl _ _)) (by rw [u8s_length]; omega))
  have x5 : ((y : Int) == 0) = false := by rw [beq_eq_false_iff_ne]; omega
  have hko := deriveF_ok hbo ha hb
  have HBO := Lib.hid (fun W => both_up base hbo train a b ha hb ht0 ht1 W)
  have hD := fun W hs => osh_data (upE false base train a b) A c xs (upE_ok hbo false train ha hb) HX8.out (by omega) W hs
  rw [data_up ht0 ht1 false hl1 hl2] at hD
  have hm5 := may5 (b := b) ht0 ht1 false hl1 hl2
  have hU := fun A c W hs => turned10 (deriveF base a b) (datP (deriveF base a b) false train b xs) A c at_ y W hko (datP_ok hko false train hb HX8.out) (by rw [datP_body]; omega) hs (seal_may hm5 (show (1 : Int) < 5 by decide)) (seal_right hm5 (show (1 : Int) < 5 by decide)) ha1 ha2 hy hy0
  have hT := fun q A c (hqo : Pdu.ok q) hqn W hs => osh_take (upE true base train a b) q A c (upE_ok hbo true train ha hb) hqo hqn W hs
  have hZ := fun q A c (hqo : Pdu.ok q) hqn W hs => osh_close (upE true base train a b) q A c (upE_ok hbo true train ha hb) hqo hqn W hs
  have hA := fun W => osh_ask (upX base train a b) a (upE_ok hbo false train ha hb) ha W
  rw [ask_again ht0 ht1] at hA
  have hN := fun W => osh_answer (upY base train a b) (askP train a) none 0 b (upE_ok hbo true train ha hb) ⟨ha, show 0 < 4294967296 by decide, fun x hx => (by cases hx), show 0 < 18446744073709551616 by decide⟩ (Nat.zero_le _) hb W (sl_nil _ _)
  rw [ans_again ht0 ht1] at hN
  have h2o : (ansP base train a b).ok := seal_ok hbo ⟨ha, hb, fun x hx => (by cases hx), show 0 < 18446744073709551616 by decide⟩
  have h2b : (ansP base train a b).body = [] := seal_bd _ _
  have hm2 := may2 (a := a) (b := b) ht0 ht1
  have hV := fun W => turned10 base (ansP base train a b) none 0 at_ y W hbo h2o (by rw [h2b]; exact Nat.zero_le _) (by rw [h2b]; exact sl_nil _ _) (seal_may hm2 (show (1 : Int) < 2 by decide)) (seal_right hm2 (show (1 : Int) < 2 by decide)) ha1 ha2 hy hy0
  have hC := fun q A c (hqo : Pdu.ok q) hqn W hs => osh_confirm (askX base train a) q A c (askX_ok hbo train ha) hqo hqn W hs
  unfold ShPostD at hD
  unfold TurnPost at hU hV
  unfold ShPost3 at hA hN
  have HD := Lib.hid hD; have HU := Lib.hid hU; have HV := Lib.hid hV; have HA := Lib.hid hA; have HN := Lib.hid hN; have HT := Lib.hid hT; have HZ := Lib.hid hZ; have HC := Lib.hid hC
  clear hD hU hV hA hN hT hZ hC hm5 hm2 h2o h2b hko hbo ha hb ht0 ht1 hta htb ha1 ha2 hy hy0 HAB
  unfold keyV keyA at HBO
  unfold prV pdV at *
  obtain ⟨s0, s1⟩ := HB1.out
  have HL0 := Lib.hid s0
  have HK := Lib.hid (HBO.out v1)
  clear s0 s1
  go_wp2_with (first | (with_reducible refine wpList_load_row (o := ⟨some 64, _, _, _, _, _⟩) rfl 24 _ rfl (w.heap.size) rfl 24 #[.int .u32 (base.a : Nat), .int .u32 (base.b : Nat), .int .u32 (base.c : Nat), .int .u32 (base.d : Nat)] (0, 0) _ (HL0.out).raw Try.underlying24 rfl (by kernel_rfl) ?_))
  refine HK.out.mono ?_
  rintro e v2 ⟨rfl, hb1⟩
  obtain ⟨s0, s1⟩ := HB1.out
  have hbn : Below v1.heap.size v1 v2 := hb1
  have HB2 : Hid (Has v2 (w.heap.size) 24 #[.int .u32 (base.a : Nat), .int .u32 (base.b : Nat), .int .u32 (base.c : Nat), .int .u32 (base.d : Nat)] ∧ Below w.heap.size w v2) := Lib.hid ⟨s0.under hbn s0.lt, s1.trans (hbn.mono s1.size)⟩
  clear s0 s1
  clear HK HB1 HL0 HBO hb1 x1 x2 x3 x4 x5
  clear hbn
  obtain ⟨s0, s1⟩ := HB2.out
  have lt2_2 : w.heap.size < v2.heap.size := s0.lt
  have le2_2 : w.heap.size ≤ v2.heap.size := s1.size
  have HS0 : Hid (Has ((v2.alloc (.cells #[.int .i64 0, .int .i64 0, .int .u32 0, .int .u32 0, .int .u32 0, .int .u32 0, .int .i64 0, .int .u32 0, .int .u32 0, .int .u32 0, .int .u32 0, .int .u32 0, .int .u32 0, .bool false, .int .u32 0, .int .u32 0] 26)).alloc (.cells #[.int .i64 0, .int .i64 0, .int .u32 0, .int .u32 0, .int .u32 0, .int .u32 0, .int .i64 0, .int .u32 0, .int .u32 0, .int .u32 0, .int .u32 0, .int .u32 0, .int .u32 0, .bool false, .int .u32 0, .int .u32 0] 26)) (v2.heap.size) 26 #[.int .i64 0, .int .i64 0, .int .u32 0, .int .u32 0, .int .u32 0, .int .u32 0, .int .i64 0, .int .u32 0, .int .u32 0, .int .u32 0, .int .u32 0, .int .u32 0, .int .u32 0, .bool false, .int .u32 0, .int .u32 0]) := Lib.hid (Has.beside (Has.made v2 26 #[.int .i64 0, .int .i64 0, .int .u32 0, .int .u32 0, .int .u32 0, .int .u32 0, .int .i64 0, .int .u32 0, .int .u32 0, .int .u32 0, .int .u32 0, .int .u32 0, .int .u32 0, .bool false, .int .u32 0, .int .u32 0]) (.cells #[.int .i64 0, .int .i64 0, .int .u32 0, .int .u32 0, .int .u32 0, .int .u32 0, .int .i64 0, .int .u32 0, .int .u32 0, .int .u32 0, .int .u32 0, .int .u32 0, .int .u32 0, .bool false, .int .u32 0, .int .u32 0] 26))
  have HS1 : Hid (Has (((v2.alloc (.cells #[.int .i64 0, .int .i64 0, .int .u32 0, .int .u32 0, .int .u32 0, .int .u32 0, .int .i64 0, .int .u32 0, .int .u32 0, .int .u32 0, .int .u32 0, .int .u32 0, .int .u32 0, .bool false, .int .u32 0, .int .u32 0] 26)).alloc (.cells #[.int .i64 0, .int .i64 0, .int .u32 0, .int .u32 0, .int .u32 0, .int .u32 0, .int .i64 0, .int .u32 0, .int .u32 0, .int .u32 0, .int .u32 0, .int .u32 0, .int .u32 0, .bool false, .int .u32 0, .int .u32 0] 26)).setRow (v2.heap.size) (prA (upX base train a b))) (v2.heap.size + 1) 26 #[.int .i64 0, .int .i64 0, .int .u32 0, .int .u32 0, .int .u32 0, .int .u32 0, .int .i64 0, .int .u32 0, .int .u32 0, .int .u32 0, .int .u32 0, .int .u32 0, .int .u32 0, .bool false, .int .u32 0, .int .u32 0]) := Lib.hid (has_setRow_other7 (show Has ((v2.alloc (.cells #[.int .i64 0, .int .i64 0, .int .u32 0, .int .u32 0, .int .u32 0, .int .u32 0, .int .i64 0, .int .u32 0, .int .u32 0, .int .u32 0, .int .u32 0, .int .u32 0, .int .u32 0, .bool false, .int .u32 0, .int .u32 0] 26)).alloc (.cells #[.int .i64 0, .int .i64 0, .int .u32 0, .int .u32 0, .int .u32 0, .int .u32 0, .int .i64 0, .int .u32 0, .int .u32 0, .int .u32 0, .int .u32 0, .int .u32 0, .int .u32 0, .bool false, .int .u32 0, .int .u32 0] 26)) (v2.heap.size + 1) 26 #[.int .i64 0, .int .i64 0, .int .u32 0, .int .u32 0, .int .u32 0, .int .u32 0, .int .i64 0, .int .u32 0, .int .u32 0, .int .u32 0, .int .u32 0, .int .u32 0, .int .u32 0, .bool false, .int .u32 0, .int .u32 0] from has_at (by simp)) (by omega) (prA (upX base train a b)))
  obtain ⟨v3, hv3⟩ : ∃ v3, (((v2.alloc (.cells #[.int .i64 0, .int .i64 0, .int .u32 0, .int .u32 0, .int .u32 0, .int .u32 0, .int .i64 0, .int .u32 0, .int .u32 0, .int .u32 0, .int .u32 0, .int .u32 0, .int .u32 0, .bool false, .int .u32 0, .int .u32 0] 26)).alloc (.cells #[.int .i64 0, .int .i64 0, .int .u32 0, .int .u32 0, .int .u32 0, .int .u32 0, .int .i64 0, .int .u32 0, .int .u32 0, .int .u32 0, .int .u32 0, .int .u32 0, .int .u32 0, .bool false, .int .u32 0, .int .u32 0] 26)).setRow (v2.heap.size) (prA (upX base train a b))).setRow (v2.heap.size + 1) (prA (upY base train a b)) = v3 := ⟨_, rfl⟩
  have hbw : Below v2.heap.size v2 v3 := by rw [← hv3]; exact (below_row (g := v2.heap.size + 1) (below_row (g := v2.heap.size) (Below.alloc (Below.alloc (Below.refl v2.heap.size v2) (Nat.le_refl _) (.cells #[.int .i64 0, .int .i64 0, .int .u32 0, .int .u32 0, .int .u32 0, .int .u32 0, .int .i64 0, .int .u32 0, .int .u32 0, .int .u32 0, .int .u32 0, .int .u32 0, .int .u32 0, .bool false, .int .u32 0, .int .u32 0] 26)) (by simp) (.cells #[.int .i64 0, .int .i64 0, .int .u32 0, .int .u32 0, .int .u32 0, .int .u32 0, .int .i64 0, .int .u32 0, .int .u32 0, .int .u32 0, .int .u32 0, .int .u32 0, .int .u32 0, .bool false, .int .u32 0, .int .u32 0] 26)) (by omega) (prA (upX base train a b))) (by omega) (prA (upY base train a b)))
  have HB3 : Hid (Has v3 (w.heap.size) 24 #[.int .u32 (base.a : Nat), .int .u32 (base.b : Nat), .int .u32 (base.c : Nat), .int .u32 (base.d : Nat)] ∧ Has v3 (v2.heap.size) 26 (prA (upX base train a b)) ∧ Has v3 (v2.heap.size + 1) 26 (prA (upY base train a b)) ∧ Below w.heap.size w v3) := Lib.hid ⟨s0.under hbw s0.lt, (by rw [← hv3]; exact (has_setRow_other7 (has_setRow7 (Has.beside (Has.made v2 26 #[.int .i64 0, .int .i64 0, .int .u32 0, .int .u32 0, .int .u32 0, .int .u32 0, .int .i64 0, .int .u32 0, .int .u32 0, .int .u32 0, .int .u32 0, .int .u32 0, .int .u32 0, .bool false, .int .u32 0, .int .u32 0]) (.cells #[.int .i64 0, .int .i64 0, .int .u32 0, .int .u32 0, .int .u32 0, .int .u32 0, .int .i64 0, .int .u32 0, .int .u32 0, .int .u32 0, .int .u32 0, .int .u32 0, .int .u32 0, .bool false, .int .u32 0, .int .u32 0] 26)) (prA (upX base train a b))) (by omega) (prA (upY base train a b)))), (by rw [← hv3]; exact (has_setRow7 (has_setRow_other7 (show Has ((v2.alloc (.cells #[.int .i64 0, .int .i64 0, .int .u32 0, .int .u32 0, .int .u32 0, .int .u32 0, .int .i64 0, .int .u32 0, .int .u32 0, .int .u32 0, .int .u32 0, .int .u32 0, .int .u32 0, .bool false, .int .u32 0, .int .u32 0] 26)).alloc (.cells #[.int .i64 0, .int .i64 0, .int .u32 0, .int .u32 0, .int .u32 0, .int .u32 0, .int .i64 0, .int .u32 0, .int .u32 0, .int .u32 0, .int .u32 0, .int .u32 0, .int .u32 0, .bool false, .int .u32 0, .int .u32 0] 26)) (v2.heap.size + 1) 26 #[.int .i64 0, .int .i64 0, .int .u32 0, .int .u32 0, .int .u32 0, .int .u32 0, .int .i64 0, .int .u32 0, .int .u32 0, .int .u32 0, .int .u32 0, .int .u32 0, .int .u32 0, .bool false, .int .u32 0, .int .u32 0] from has_at (by simp)) (by omega) (prA (upX base train a b))) (prA (upY base train a b)))), s1.trans (hbw.mono s1.size)⟩
  clear hbw
  have HWv3 := Lib.hid hv3
  clear s0 s1
  clear hv3 HB2
  go_upto_region 5 with (first | (with_reducible refine wpList_store_rowTo (o := ⟨none, _, _, _, _, _⟩) rfl 26 _ _ rfl rfl (v2.heap.size) (prA (upX base train a b)) rfl rfl 26 _ (HS0.out).raw (by kernel_rfl) (by kernel_rfl) (by kernel_rfl) ?_) | (with_reducible refine wpList_store_rowTo (o := ⟨none, _, _, _, _, _⟩) rfl 26 _ _ rfl rfl (v2.heap.size + 1) (prA (upY base train a b)) rfl rfl 26 _ (HS1.out).raw (by kernel_rfl) (by kernel_rfl) (by kernel_rfl) ?_))
  rw [HWv3.out]
  clear HWv3 HS0 HS1
  obtain ⟨s0, s1, s2, s3⟩ := HB3.out
  have HL0 := Lib.hid s1
  have HK := Lib.hid (HD.out v3 (HSL.out _ s3))
  clear s0 s1 s2 s3
  go_wp2_with (first | (with_reducible refine wpList_load_row (o := ⟨some 73, _, _, _, _, _⟩) rfl 26 _ rfl (v2.heap.size) rfl 26 (prA (upX base train a b)) (0, 0) _ (HL0.out).raw Try.underlying26 rfl (by kernel_rfl) ?_))
  refine HK.out.mono ?_
  rintro e v4 ⟨A2, c2, rfl, hs2, _, hb1⟩
  obtain ⟨s0, s1, s2, s3⟩ := HB3.out
  have hbn : Below v3.heap.size v3 v4 := hb1.out
  have HB4 : Hid (Has v4 (w.heap.size) 24 #[.int .u32 (base.a : Nat), .int .u32 (base.b : Nat), .int .u32 (base.c : Nat), .int .u32 (base.d : Nat)] ∧ Has v4 (v2.heap.size) 26 (prA (upX base train a b)) ∧ Has v4 (v2.heap.size + 1) 26 (prA (upY base train a b)) ∧ Below w.heap.size w v4) := Lib.hid ⟨s0.under hbn s0.lt, s1.under hbn s1.lt, s2.under hbn s2.lt, s3.trans (hbn.mono s3.size)⟩
  clear s0 s1 s2 s3
  clear HK HB3 HL0 HD hb1
  clear hbn
  obtain ⟨s0, s1, s2, s3⟩ := HB4.out
  have HB5 : Hid (Has v4 (w.heap.size) 24 #[.int .u32 (base.a : Nat), .int .u32 (base.b : Nat), .int .u32 (base.c : Nat), .int .u32 (base.d : Nat)] ∧ Has v4 (v2.heap.size) 26 (prA (upX base train a b)) ∧ Has v4 (v2.heap.size + 1) 26 (prA (upY base train a b)) ∧ Sl v4 1 A2 (datP (deriveF base a b) false train b xs).body.length c2 (u8s (datP (deriveF base a b) false train b xs).body) ∧ Below w.heap.size w v4) := Lib.hid ⟨s0, s1, s2, hs2.out, s3⟩
  clear s0 s1 s2 s3
  clear HB4
  clear hs2
  obtain ⟨s0, s1, s2, s3, s4⟩ := HB5.out
  have lt4_5 : v2.heap.size + 1 < v4.heap.size := s2.lt
  have le4_5 : w.heap.size ≤ v4.heap.size := s4.size
  have HS0 : Hid (Has (v4.alloc (.cells #[.int .i64 0, .int .i64 0, .int .i64 0, .int .u32 0, .int .u32 0, .slice none 0 0, .int .u64 0] 30)) (v4.heap.size) 30 #[.int .i64 0, .int .i64 0, .int .i64 0, .int .u32 0, .int .u32 0, .slice none 0 0, .int .u64 0]) := Lib.hid (Has.made v4 30 #[.int .i64 0, .int .i64 0, .int .i64 0, .int .u32 0, .int .u32 0, .slice none 0 0, .int .u64 0])
  obtain ⟨v5, hv5⟩ : ∃ v5, (v4.alloc (.cells #[.int .i64 0, .int .i64 0, .int .i64 0, .int .u32 0, .int .u32 0, .slice none 0 0, .int .u64 0] 30)).setRow (v4.heap.size) (pdA (datP (deriveF base a b) false train b xs) A2 c2) = v5 := ⟨_, rfl⟩
  have hbw : Below v4.heap.size v4 v5 := by rw [← hv5]; exact (below_row (g := v4.heap.size) (Below.alloc (Below.refl v4.heap.size v4) (Nat.le_refl _) (.cells #[.int .i64 0, .int .i64 0, .int .i64 0, .int .u32 0, .int .u32 0, .slice none 0 0, .int .u64 0] 30)) (by omega) (pdA (datP (deriveF base a b) false train b xs) A2 c2))
  have HB6 : Hid (Has v5 (w.heap.size) 24 #[.int .u32 (base.a : Nat), .int .u32 (base.b : Nat), .int .u32 (base.c : Nat), .int .u32 (base.d : Nat)] ∧ Has v5 (v2.heap.size) 26 (prA (upX base train a b)) ∧ Has v5 (v2.heap.size + 1) 26 (prA (upY base train a b)) ∧ Sl v5 1 A2 (datP (deriveF base a b) false train b xs).body.length c2 (u8s (datP (deriveF base a b) false train b xs).body) ∧ Has v5 (v4.heap.size) 30 (pdA (datP (deriveF base a b) false train b xs) A2 c2) ∧ Below w.heap.size w v5) := Lib.hid ⟨s0.under hbw s0.lt, s1.under hbw s1.lt, s2.under hbw s2.lt, s3.under hbw, (by rw [← hv5]; exact (has_setRow7 (Has.made v4 30 #[.int .i64 0, .int .i64 0, .int .i64 0, .int .u32 0, .int .u32 0, .slice none 0 0, .int .u64 0]) (pdA (datP (deriveF base a b) false train b xs) A2 c2))), s4.trans (hbw.mono s4.size)⟩
  clear hbw
  have HWv5 := Lib.hid hv5
  clear s0 s1 s2 s3 s4
  clear hv5 HB5
  go_upto_region 8 with (first | (with_reducible refine wpList_store_rowTo (o := ⟨none, _, _, _, _, _⟩) rfl 30 _ _ rfl rfl (v4.heap.size) (pdA (datP (deriveF base a b) false train b xs) A2 c2) rfl rfl 30 _ (HS0.out).raw (by kernel_rfl) (by kernel_rfl) (by kernel_rfl) ?_))
  rw [HWv5.out]
  clear HWv5 HS0
  obtain ⟨s0, s1, s2, s3, s4, s5⟩ := HB6.out
  have HL0 := Lib.hid s4
  have HK := Lib.hid (HU.out A2 c2 v5 s3)
  clear s0 s1 s2 s3 s4 s5
  go_wp2_with (first | (with_reducible refine wpList_load_row (o := ⟨some 85, _, _, _, _, _⟩) rfl 30 _ rfl (v4.heap.size) rfl 30 (pdA (datP (deriveF base a b) false train b xs) A2 c2) (0, 0) _ (HL0.out).raw Try.underlying30 rfl (by kernel_rfl) ?_))
  refine HK.out.mono ?_
  rintro e v6 ⟨q, A4, c4, is, rfl, hq, hs4, _, hb1⟩
  obtain ⟨s0, s1, s2, s3, s4, s5⟩ := HB6.out
  have hbn : Below v5.heap.size v5 v6 := hb1.out
  have HB7 : Hid (Has v6 (w.heap.size) 24 #[.int .u32 (base.a : Nat), .int .u32 (base.b : Nat), .int .u32 (base.c : Nat), .int .u32 (base.d : Nat)] ∧ Has v6 (v2.heap.size) 26 (prA (upX base train a b)) ∧ Has v6 (v2.heap.size + 1) 26 (prA (upY base train a b)) ∧ Sl v6 1 A2 (datP (deriveF base a b) false train b xs).body.length c2 (u8s (datP (deriveF base a b) false train b xs).body) ∧ Has v6 (v4.heap.size) 30 (pdA (datP (deriveF base a b) false train b xs) A2 c2) ∧ Below w.heap.size w v6) := Lib.hid ⟨s0.under hbn s0.lt, s1.under hbn s1.lt, s2.under hbn s2.lt, s3.under hbn, s4.under hbn s4.lt, s5.trans (hbn.mono s5.size)⟩
  clear s0 s1 s2 s3 s4 s5
  clear HK HB6 HL0 HU hb1
  clear hbn
  obtain ⟨s0, s1, s2, s3, s4, s5⟩ := HB7.out
  have HB8 : Hid (Has v6 (w.heap.size) 24 #[.int .u32 (base.a : Nat), .int .u32 (base.b : Nat), .int .u32 (base.c : Nat), .int .u32 (base.d : Nat)] ∧ Has v6 (v2.heap.size) 26 (prA (upX base train a b)) ∧ Has v6 (v2.heap.size + 1) 26 (prA (upY base train a b)) ∧ Sl v6 1 A2 (datP (deriveF base a b) false train b xs).body.length c2 (u8s (datP (deriveF base a b) false train b xs).body) ∧ Has v6 (v4.heap.size) 30 (pdA (datP (deriveF base a b) false train b xs) A2 c2) ∧ Sl v6 1 A4 q.body.length c4 (u8s q.body) ∧ Below w.heap.size w v6) := Lib.hid ⟨s0, s1, s2, s3, s4, hs4.out, s5⟩
  clear s0 s1 s2 s3 s4 s5
  clear HB7
  clear hs4
  obtain ⟨s0, s1, s2, s3, s4, s5, s6⟩ := HB8.out
  have lt6_8 : v4.heap.size < v6.heap.size := s4.lt
  have le6_8 : w.heap.size ≤ v6.heap.size := s6.size
  have HS0 : Hid (Has (v6.alloc (.cells #[.int .i64 0, .int .i64 0, .int .i64 0, .int .u32 0, .int .u32 0, .slice none 0 0, .int .u64 0] 30)) (v6.heap.size) 30 #[.int .i64 0, .int .i64 0, .int .i64 0, .int .u32 0, .int .u32 0, .slice none 0 0, .int .u64 0]) := Lib.hid (Has.made v6 30 #[.int .i64 0, .int .i64 0, .int .i64 0, .int .u32 0, .int .u32 0, .slice none 0 0, .int .u64 0])
  obtain ⟨v7, hv7⟩ : ∃ v7, (v6.alloc (.cells #[.int .i64 0, .int .i64 0, .int .i64 0, .int .u32 0, .int .u32 0, .slice none 0 0, .int .u64 0] 30)).setRow (v6.heap.size) (pdA (q) A4 c4) = v7 := ⟨_, rfl⟩
  have hbw : Below v6.heap.size v6 v7 := by rw [← hv7]; exact (below_row (g := v6.heap.size) (Below.alloc (Below.refl v6.heap.size v6) (Nat.le_refl _) (.cells #[.int .i64 0, .int .i64 0, .int .i64 0, .int .u32 0, .int .u32 0, .slice none 0 0, .int .u64 0] 30)) (by omega) (pdA (q) A4 c4))
  have HB9 : Hid (Has v7 (w.heap.size) 24 #[.int .u32 (base.a : Nat), .int .u32 (base.b : Nat), .int .u32 (base.c : Nat), .int .u32 (base.d : Nat)] ∧ Has v7 (v2.heap.size) 26 (prA (upX base train a b)) ∧ Has v7 (v2.heap.size + 1) 26 (prA (upY base train a b)) ∧ Sl v7 1 A2 (datP (deriveF base a b) false train b xs).body.length c2 (u8s (datP (deriveF base a b) false train b xs).body) ∧ Has v7 (v4.heap.size) 30 (pdA (datP (deriveF base a b) false train b xs) A2 c2) ∧ Sl v7 1 A4 q.body.length c4 (u8s q.body) ∧ Has v7 (v6.heap.size) 30 (pdA (q) A4 c4) ∧ Below w.heap.size w v7) := Lib.hid ⟨s0.under hbw s0.lt, s1.under hbw s1.lt, s2.under hbw s2.lt, s3.under hbw, s4.under hbw s4.lt, s5.under hbw, (by rw [← hv7]; exact (has_setRow7 (Has.made v6 30 #[.int .i64 0, .int .i64 0, .int .i64 0, .int .u32 0, .int .u32 0, .slice none 0 0, .int .u64 0]) (pdA (q) A4 c4))), s6.trans (hbw.mono s6.size)⟩
  clear hbw
  have HWv7 := Lib.hid hv7
  clear s0 s1 s2 s3 s4 s5 s6
  clear hv7 HB8
  go_upto_region 9 with (first | (with_reducible refine wpList_store_rowTo (o := ⟨none, _, _, _, _, _⟩) rfl 30 _ _ rfl rfl (v6.heap.size) (pdA (q) A4 c4) rfl rfl 30 _ (HS0.out).raw (by kernel_rfl) (by kernel_rfl) (by kernel_rfl) ?_))
  rw [HWv7.out]
  clear HWv7 HS0
  cases is
  · clear hq HT HZ
    obtain ⟨s0, s1, s2, s3, s4, s5, s6, s7⟩ := HB9.out
    have HL0 := Lib.hid s1
    have HK := Lib.hid (HA.out v7)
    clear s0 s1 s2 s3 s4 s5 s6 s7
    go_wp2_with (first | (with_reducible refine wpList_load_row (o := ⟨some 111, _, _, _, _, _⟩) rfl 26 _ rfl (v2.heap.size) rfl 26 (prA (upX base train a b)) (0, 0) _ (HL0.out).raw Try.underlying26 rfl (by kernel_rfl) ?_))
    refine HK.out.mono ?_
    rintro e v8 ⟨rfl, hb1⟩
    obtain ⟨s0, s1, s2, s3, s4, s5, s6, s7⟩ := HB9.out
    have hbn : Below v7.heap.size v7 v8 := hb1
    have HB10 : Hid (Has v8 (w.heap.size) 24 #[.int .u32 (base.a : Nat), .int .u32 (base.b : Nat), .int .u32 (base.c : Nat), .int .u32 (base.d : Nat)] ∧ Has v8 (v2.heap.size) 26 (prA (upX base train a b)) ∧ Has v8 (v2.heap.size + 1) 26 (prA (upY base train a b)) ∧ Sl v8 1 A2 (datP (deriveF base a b) false train b xs).body.length c2 (u8s (datP (deriveF base a b) false train b xs).body) ∧ Has v8 (v4.heap.size) 30 (pdA (datP (deriveF base a b) false train b xs) A2 c2) ∧ Sl v8 1 A4 q.body.length c4 (u8s q.body) ∧ Has v8 (v6.heap.size) 30 (pdA (q) A4 c4) ∧ Below w.heap.size w v8) := Lib.hid ⟨s0.under hbn s0.lt, s1.under hbn s1.lt, s2.under hbn s2.lt, s3.under hbn, s4.under hbn s4.lt, s5.under hbn, s6.under hbn s6.lt, s7.trans (hbn.mono s7.size)⟩
    clear s0 s1 s2 s3 s4 s5 s6 s7
    clear HK HB9 HL0 HA hb1
    clear hbn
    obtain ⟨s0, s1, s2, s3, s4, s5, s6, s7⟩ := HB10.out
    have lt8_10 : v6.heap.size < v8.heap.size := s6.lt
    have le8_10 : w.heap.size ≤ v8.heap.size := s7.size
    have HS0 : Hid (Has ((v8.alloc (.cells #[.int .i64 0, .int .i64 0, .int .u32 0, .int .u32 0, .int .u32 0, .int .u32 0, .int .i64 0, .int .u32 0, .int .u32 0, .int .u32 0, .int .u32 0, .int .u32 0, .int .u32 0, .bool false, .int .u32 0, .int .u32 0] 26)).alloc (.cells #[.int .i64 0, .int .i64 0, .int .i64 0, .int .u32 0, .int .u32 0, .slice none 0 0, .int .u64 0] 30)) (v8.heap.size) 26 #[.int .i64 0, .int .i64 0, .int .u32 0, .int .u32 0, .int .u32 0, .int .u32 0, .int .i64 0, .int .u32 0, .int .u32 0, .int .u32 0, .int .u32 0, .int .u32 0, .int .u32 0, .bool false, .int .u32 0, .int .u32 0]) := Lib.hid (Has.beside (Has.made v8 26 #[.int .i64 0, .int .i64 0, .int .u32 0, .int .u32 0, .int .u32 0, .int .u32 0, .int .i64 0, .int .u32 0, .int .u32 0, .int .u32 0, .int .u32 0, .int .u32 0, .int .u32 0, .bool false, .int .u32 0, .int .u32 0]) (.cells #[.int .i64 0, .int .i64 0, .int .i64 0, .int .u32 0, .int .u32 0, .slice none 0 0, .int .u64 0] 30))
    have HS1 : Hid (Has (((v8.alloc (.cells #[.int .i64 0, .int .i64 0, .int .u32 0, .int .u32 0, .int .u32 0, .int .u32 0, .int .i64 0, .int .u32 0, .int .u32 0, .int .u32 0, .int .u32 0, .int .u32 0, .int .u32 0, .bool false, .int .u32 0, .int .u32 0] 26)).alloc (.cells #[.int .i64 0, .int .i64 0, .int .i64 0, .int .u32 0, .int .u32 0, .slice none 0 0, .int .u64 0] 30)).setRow (v8.heap.size) (prA (askX base train a))) (v8.heap.size + 1) 30 #[.int .i64 0, .int .i64 0, .int .i64 0, .int .u32 0, .int .u32 0, .slice none 0 0, .int .u64 0]) := Lib.hid (has_setRow_other7 (show Has ((v8.alloc (.cells #[.int .i64 0, .int .i64 0, .int .u32 0, .int .u32 0, .int .u32 0, .int .u32 0, .int .i64 0, .int .u32 0, .int .u32 0, .int .u32 0, .int .u32 0, .int .u32 0, .int .u32 0, .bool false, .int .u32 0, .int .u32 0] 26)).alloc (.cells #[.int .i64 0, .int .i64 0, .int .i64 0, .int .u32 0, .int .u32 0, .slice none 0 0, .int .u64 0] 30)) (v8.heap.size + 1) 30 #[.int .i64 0, .int .i64 0, .int .i64 0, .int .u32 0, .int .u32 0, .slice none 0 0, .int .u64 0] from has_at (by simp)) (by omega) (prA (askX base train a)))
    obtain ⟨v9, hv9⟩ : ∃ v9, (((v8.alloc (.cells #[.int .i64 0, .int .i64 0, .int .u32 0, .int .u32 0, .int .u32 0, .int .u32 0, .int .i64 0, .int .u32 0, .int .u32 0, .int .u32 0, .int .u32 0, .int .u32 0, .int .u32 0, .bool false, .int .u32 0, .int .u32 0] 26)).alloc (.cells #[.int .i64 0, .int .i64 0, .int .i64 0, .int .u32 0, .int .u32 0, .slice none 0 0, .int .u64 0] 30)).setRow (v8.heap.size) (prA (askX base train a))).setRow (v8.heap.size + 1) (pdA (askP train a) none 0) = v9 := ⟨_, rfl⟩
    have hbw : Below v8.heap.size v8 v9 := by rw [← hv9]; exact (below_row (g := v8.heap.size + 1) (below_row (g := v8.heap.size) (Below.alloc (Below.alloc (Below.refl v8.heap.size v8) (Nat.le_refl _) (.cells #[.int .i64 0, .int .i64 0, .int .u32 0, .int .u32 0, .int .u32 0, .int .u32 0, .int .i64 0, .int .u32 0, .int .u32 0, .int .u32 0, .int .u32 0, .int .u32 0, .int .u32 0, .bool false, .int .u32 0, .int .u32 0] 26)) (by simp) (.cells #[.int .i64 0, .int .i64 0, .int .i64 0, .int .u32 0, .int .u32 0, .slice none 0 0, .int .u64 0] 30)) (by omega) (prA (askX base train a))) (by omega) (pdA (askP train a) none 0))
    have HB11 : Hid (Has v9 (w.heap.size) 24 #[.int .u32 (base.a : Nat), .int .u32 (base.b : Nat), .int .u32 (base.c : Nat), .int .u32 (base.d : Nat)] ∧ Has v9 (v2.heap.size) 26 (prA (upX base train a b)) ∧ Has v9 (v2.heap.size + 1) 26 (prA (upY base train a b)) ∧ Sl v9 1 A2 (datP (deriveF base a b) false train b xs).body.length c2 (u8s (datP (deriveF base a b) false train b xs).body) ∧ Has v9 (v4.heap.size) 30 (pdA (datP (deriveF base a b) false train b xs) A2 c2) ∧ Sl v9 1 A4 q.body.length c4 (u8s q.body) ∧ Has v9 (v6.heap.size) 30 (pdA (q) A4 c4) ∧ Has v9 (v8.heap.size) 26 (prA (askX base train a)) ∧ Has v9 (v8.heap.size + 1) 30 (pdA (askP train a) none 0) ∧ Below w.heap.size w v9) := Lib.hid ⟨s0.under hbw s0.lt, s1.under hbw s1.lt, s2.under hbw s2.lt, s3.under hbw, s4.under hbw s4.lt, s5.under hbw, s6.under hbw s6.lt, (by rw [← hv9]; exact (has_setRow_other7 (has_setRow7 (Has.beside (Has.made v8 26 #[.int .i64 0, .int .i64 0, .int .u32 0, .int .u32 0, .int .u32 0, .int .u32 0, .int .i64 0, .int .u32 0, .int .u32 0, .int .u32 0, .int .u32 0, .int .u32 0, .int .u32 0, .bool false, .int .u32 0, .int .u32 0]) (.cells #[.int .i64 0, .int .i64 0, .int .i64 0, .int .u32 0, .int .u32 0, .slice none 0 0, .int .u64 0] 30)) (prA (askX base train a))) (by omega) (pdA (askP train a) none 0))), (by rw [← hv9]; exact (has_setRow7 (has_setRow_other7 (show Has ((v8.alloc (.cells #[.int .i64 0, .int .i64 0, .int .u32 0, .int .u32 0, .int .u32 0, .int .u32 0, .int .i64 0, .int .u32 0, .int .u32 0, .int .u32 0, .int .u32 0, .int .u32 0, .int .u32 0, .bool false, .int .u32 0, .int .u32 0] 26)).alloc (.cells #[.int .i64 0, .int .i64 0, .int .i64 0, .int .u32 0, .int .u32 0, .slice none 0 0, .int .u64 0] 30)) (v8.heap.size + 1) 30 #[.int .i64 0, .int .i64 0, .int .i64 0, .int .u32 0, .int .u32 0, .slice none 0 0, .int .u64 0] from has_at (by simp)) (by omega) (prA (askX base train a))) (pdA (askP train a) none 0))), s7.trans (hbw.mono s7.size)⟩
    clear hbw
    have HWv9 := Lib.hid hv9
    clear s0 s1 s2 s3 s4 s5 s6 s7
    clear hv9 HB10
    go_upto_region 15 with (first | (with_reducible refine wpList_store_rowTo (o := ⟨none, _, _, _, _, _⟩) rfl 26 _ _ rfl rfl (v8.heap.size) (prA (askX base train a)) rfl rfl 26 _ (HS0.out).raw (by kernel_rfl) (by kernel_rfl) (by kernel_rfl) ?_) | (with_reducible refine wpList_store_rowTo (o := ⟨none, _, _, _, _, _⟩) rfl 30 _ _ rfl rfl (v8.heap.size + 1) (pdA (askP train a) none 0) rfl rfl 30 _ (HS1.out).raw (by kernel_rfl) (by kernel_rfl) (by kernel_rfl) ?_))
    rw [HWv9.out]
    clear HWv9 HS0 HS1
    obtain ⟨s0, s1, s2, s3, s4, s5, s6, s7, s8, s9⟩ := HB11.out
    have HL0 := Lib.hid s2
    have HL1 := Lib.hid s8
    have HK := Lib.hid (HN.out v9)
    clear s0 s1 s2 s3 s4 s5 s6 s7 s8 s9
    go_wp2_with (first | (with_reducible refine wpList_load_row (o := ⟨some 118, _, _, _, _, _⟩) rfl 26 _ rfl (v2.heap.size + 1) rfl 26 (prA (upY base train a b)) (0, 0) _ (HL0.out).raw Try.underlying26 rfl (by kernel_rfl) ?_) | (with_reducible refine wpList_load_row (o := ⟨some 119, _, _, _, _, _⟩) rfl 30 _ rfl (v8.heap.size + 1) rfl 30 (pdA (askP train a) none 0) (0, 0) _ (HL1.out).raw Try.underlying30 rfl (by kernel_rfl) ?_))
    refine HK.out.mono ?_
    rintro e v10 ⟨rfl, hb1⟩
    obtain ⟨s0, s1, s2, s3, s4, s5, s6, s7, s8, s9⟩ := HB11.out
    have hbn : Below v9.heap.size v9 v10 := hb1
    have HB12 : Hid (Has v10 (w.heap.size) 24 #[.int .u32 (base.a : Nat), .int .u32 (base.b : Nat), .int .u32 (base.c : Nat), .int .u32 (base.d : Nat)] ∧ Has v10 (v2.heap.size) 26 (prA (upX base train a b)) ∧ Has v10 (v2.heap.size + 1) 26 (prA (upY base train a b)) ∧ Sl v10 1 A2 (datP (deriveF base a b) false train b xs).body.length c2 (u8s (datP (deriveF base a b) false train b xs).body) ∧ Has v10 (v4.heap.size) 30 (pdA (datP (deriveF base a b) false train b xs) A2 c2) ∧ Sl v10 1 A4 q.body.length c4 (u8s q.body) ∧ Has v10 (v6.heap.size) 30 (pdA (q) A4 c4) ∧ Has v10 (v8.heap.size) 26 (prA (askX base train a)) ∧ Has v10 (v8.heap.size + 1) 30 (pdA (askP train a) none 0) ∧ Below w.heap.size w v10) := Lib.hid ⟨s0.under hbn s0.lt, s1.under hbn s1.lt, s2.under hbn s2.lt, s3.under hbn, s4.under hbn s4.lt, s5.under hbn, s6.under hbn s6.lt, s7.under hbn s7.lt, s8.under hbn s8.lt, s9.trans (hbn.mono s9.size)⟩
    clear s0 s1 s2 s3 s4 s5 s6 s7 s8 s9
    clear HK HB11 HL0 HL1 HN hb1
    clear hbn
    obtain ⟨s0, s1, s2, s3, s4, s5, s6, s7, s8, s9⟩ := HB12.out
    have lt10_12 : v8.heap.size + 1 < v10.heap.size := s8.lt
    have le10_12 : w.heap.size ≤ v10.heap.size := s9.size
    have HS0 : Hid (Has ((v10.alloc (.cells #[.int .i64 0, .int .i64 0, .int .u32 0, .int .u32 0, .int .u32 0, .int .u32 0, .int .i64 0, .int .u32 0, .int .u32 0, .int .u32 0, .int .u32 0, .int .u32 0, .int .u32 0, .bool false, .int .u32 0, .int .u32 0] 26)).alloc (.cells #[.int .i64 0, .int .i64 0, .int .i64 0, .int .u32 0, .int .u32 0, .slice none 0 0, .int .u64 0] 30)) (v10.heap.size) 26 #[.int .i64 0, .int .i64 0, .int .u32 0, .int .u32 0, .int .u32 0, .int .u32 0, .int .i64 0, .int .u32 0, .int .u32 0, .int .u32 0, .int .u32 0, .int .u32 0, .int .u32 0, .bool false, .int .u32 0, .int .u32 0]) := Lib.hid (Has.beside (Has.made v10 26 #[.int .i64 0, .int .i64 0, .int .u32 0, .int .u32 0, .int .u32 0, .int .u32 0, .int .i64 0, .int .u32 0, .int .u32 0, .int .u32 0, .int .u32 0, .int .u32 0, .int .u32 0, .bool false, .int .u32 0, .int .u32 0]) (.cells #[.int .i64 0, .int .i64 0, .int .i64 0, .int .u32 0, .int .u32 0, .slice none 0 0, .int .u64 0] 30))
    have HS1 : Hid (Has (((v10.alloc (.cells #[.int .i64 0, .int .i64 0, .int .u32 0, .int .u32 0, .int .u32 0, .int .u32 0, .int .i64 0, .int .u32 0, .int .u32 0, .int .u32 0, .int .u32 0, .int .u32 0, .int .u32 0, .bool false, .int .u32 0, .int .u32 0] 26)).alloc (.cells #[.int .i64 0, .int .i64 0, .int .i64 0, .int .u32 0, .int .u32 0, .slice none 0 0, .int .u64 0] 30)).setRow (v10.heap.size) (prA (agaY base train a b a b))) (v10.heap.size + 1) 30 #[.int .i64 0, .int .i64 0, .int .i64 0, .int .u32 0, .int .u32 0, .slice none 0 0, .int .u64 0]) := Lib.hid (has_setRow_other7 (show Has ((v10.alloc (.cells #[.int .i64 0, .int .i64 0, .int .u32 0, .int .u32 0, .int .u32 0, .int .u32 0, .int .i64 0, .int .u32 0, .int .u32 0, .int .u32 0, .int .u32 0, .int .u32 0, .int .u32 0, .bool false, .int .u32 0, .int .u32 0] 26)).alloc (.cells #[.int .i64 0, .int .i64 0, .int .i64 0, .int .u32 0, .int .u32 0, .slice none 0 0, .int .u64 0] 30)) (v10.heap.size + 1) 30 #[.int .i64 0, .int .i64 0, .int .i64 0, .int .u32 0, .int .u32 0, .slice none 0 0, .int .u64 0] from has_at (by simp)) (by omega) (prA (agaY base train a b a b)))
    obtain ⟨v11, hv11⟩ : ∃ v11, (((v10.alloc (.cells #[.int .i64 0, .int .i64 0, .int .u32 0, .int .u32 0, .int .u32 0, .int .u32 0, .int .i64 0, .int .u32 0, .int .u32 0, .int .u32 0, .int .u32 0, .int .u32 0, .int .u32 0, .bool false, .int .u32 0, .int .u32 0] 26)).alloc (.cells #[.int .i64 0, .int .i64 0, .int .i64 0, .int .u32 0, .int .u32 0, .slice none 0 0, .int .u64 0] 30)).setRow (v10.heap.size) (prA (agaY base train a b a b))).setRow (v10.heap.size + 1) (pdA (ansP base train a b) none 0) = v11 := ⟨_, rfl⟩
    have hbw : Below v10.heap.size v10 v11 := by rw [← hv11]; exact (below_row (g := v10.heap.size + 1) (below_row (g := v10.heap.size) (Below.alloc (Below.alloc (Below.refl v10.heap.size v10) (Nat.le_refl _) (.cells #[.int .i64 0, .int .i64 0, .int .u32 0, .int .u32 0, .int .u32 0, .int .u32 0, .int .i64 0, .int .u32 0, .int .u32 0, .int .u32 0, .int .u32 0, .int .u32 0, .int .u32 0, .bool false, .int .u32 0, .int .u32 0] 26)) (by simp) (.cells #[.int .i64 0, .int .i64 0, .int .i64 0, .int .u32 0, .int .u32 0, .slice none 0 0, .int .u64 0] 30)) (by omega) (prA (agaY base train a b a b))) (by omega) (pdA (ansP base train a b) none 0))
    have HB13 : Hid (Has v11 (w.heap.size) 24 #[.int .u32 (base.a : Nat), .int .u32 (base.b : Nat), .int .u32 (base.c : Nat), .int .u32 (base.d : Nat)] ∧ Has v11 (v2.heap.size) 26 (prA (upX base train a b)) ∧ Has v11 (v2.heap.size + 1) 26 (prA (upY base train a b)) ∧ Sl v11 1 A2 (datP (deriveF base a b) false train b xs).body.length c2 (u8s (datP (deriveF base a b) false train b xs).body) ∧ Has v11 (v4.heap.size) 30 (pdA (datP (deriveF base a b) false train b xs) A2 c2) ∧ Sl v11 1 A4 q.body.length c4 (u8s q.body) ∧ Has v11 (v6.heap.size) 30 (pdA (q) A4 c4) ∧ Has v11 (v8.heap.size) 26 (prA (askX base train a)) ∧ Has v11 (v8.heap.size + 1) 30 (pdA (askP train a) none 0) ∧ Has v11 (v10.heap.size) 26 (prA (agaY base train a b a b)) ∧ Has v11 (v10.heap.size + 1) 30 (pdA (ansP base train a b) none 0) ∧ Below w.heap.size w v11) := Lib.hid ⟨s0.under hbw s0.lt, s1.under hbw s1.lt, s2.under hbw s2.lt, s3.under hbw, s4.under hbw s4.lt, s5.under hbw, s6.under hbw s6.lt, s7.under hbw s7.lt, s8.under hbw s8.lt, (by rw [← hv11]; exact (has_setRow_other7 (has_setRow7 (Has.beside (Has.made v10 26 #[.int .i64 0, .int .i64 0, .int .u32 0, .int .u32 0, .int .u32 0, .int .u32 0, .int .i64 0, .int .u32 0, .int .u32 0, .int .u32 0, .int .u32 0, .int .u32 0, .int .u32 0, .bool false, .int .u32 0, .int .u32 0]) (.cells #[.int .i64 0, .int .i64 0, .int .i64 0, .int .u32 0, .int .u32 0, .slice none 0 0, .int .u64 0] 30)) (prA (agaY base train a b a b))) (by omega) (pdA (ansP base train a b) none 0))), (by rw [← hv11]; exact (has_setRow7 (has_setRow_other7 (show Has ((v10.alloc (.cells #[.int .i64 0, .int .i64 0, .int .u32 0, .int .u32 0, .int .u32 0, .int .u32 0, .int .i64 0, .int .u32 0, .int .u32 0, .int .u32 0, .int .u32 0, .int .u32 0, .int .u32 0, .bool false, .int .u32 0, .int .u32 0] 26)).alloc (.cells #[.int .i64 0, .int .i64 0, .int .i64 0, .int .u32 0, .int .u32 0, .slice none 0 0, .int .u64 0] 30)) (v10.heap.size + 1) 30 #[.int .i64 0, .int .i64 0, .int .i64 0, .int .u32 0, .int .u32 0, .slice none 0 0, .int .u64 0] from has_at (by simp)) (by omega) (prA (agaY base train a b a b))) (pdA (ansP base train a b) none 0))), s9.trans (hbw.mono s9.size)⟩
    clear hbw
    have HWv11 := Lib.hid hv11
    clear s0 s1 s2 s3 s4 s5 s6 s7 s8 s9
    clear hv11 HB12
    go_upto_region 18 with (first | (with_reducible refine wpList_store_rowTo (o := ⟨none, _, _, _, _, _⟩) rfl 26 _ _ rfl rfl (v10.heap.size) (prA (agaY base train a b a b)) rfl rfl 26 _ (HS0.out).raw (by kernel_rfl) (by kernel_rfl) (by kernel_rfl) ?_) | (with_reducible refine wpList_store_rowTo (o := ⟨none, _, _, _, _, _⟩) rfl 30 _ _ rfl rfl (v10.heap.size + 1) (pdA (ansP base train a b) none 0) rfl rfl 30 _ (HS1.out).raw (by kernel_rfl) (by kernel_rfl) (by kernel_rfl) ?_))
    rw [HWv11.out]
    clear HWv11 HS0 HS1
    obtain ⟨s0, s1, s2, s3, s4, s5, s6, s7, s8, s9, s10, s11⟩ := HB13.out
    have HL0 := Lib.hid s10
    have HK := Lib.hid (HV.out v11)
    clear s0 s1 s2 s3 s4 s5 s6 s7 s8 s9 s10 s11
    go_wp2_with (first | (with_reducible refine wpList_load_row (o := ⟨some 132, _, _, _, _, _⟩) rfl 30 _ rfl (v10.heap.size + 1) rfl 30 (pdA (ansP base train a b) none 0) (0, 0) _ (HL0.out).raw Try.underlying30 rfl (by kernel_rfl) ?_))
    refine HK.out.mono ?_
    rintro e v12 ⟨p2, A7, c7, is2, rfl, hq2, hs7, _, hb1⟩
    obtain ⟨s0, s1, s2, s3, s4, s5, s6, s7, s8, s9, s10, s11⟩ := HB13.out
    have hbn : Below v11.heap.size v11 v12 := hb1.out
    have HB14 : Hid (Has v12 (w.heap.size) 24 #[.int .u32 (base.a : Nat), .int .u32 (base.b : Nat), .int .u32 (base.c : Nat), .int .u32 (base.d : Nat)] ∧ Has v12 (v2.heap.size) 26 (prA (upX base train a b)) ∧ Has v12 (v2.heap.size + 1) 26 (prA (upY base train a b)) ∧ Sl v12 1 A2 (datP (deriveF base a b) false train b xs).body.length c2 (u8s (datP (deriveF base a b) false train b xs).body) ∧ Has v12 (v4.heap.size) 30 (pdA (datP (deriveF base a b) false train b xs) A2 c2) ∧ Sl v12 1 A4 q.body.length c4 (u8s q.body) ∧ Has v12 (v6.heap.size) 30 (pdA (q) A4 c4) ∧ Has v12 (v8.heap.size) 26 (prA (askX base train a)) ∧ Has v12 (v8.heap.size + 1) 30 (pdA (askP train a) none 0) ∧ Has v12 (v10.heap.size) 26 (prA (agaY base train a b a b)) ∧ Has v12 (v10.heap.size + 1) 30 (pdA (ansP base train a b) none 0) ∧ Below w.heap.size w v12) := Lib.hid ⟨s0.under hbn s0.lt, s1.under hbn s1.lt, s2.under hbn s2.lt, s3.under hbn, s4.under hbn s4.lt, s5.under hbn, s6.under hbn s6.lt, s7.under hbn s7.lt, s8.under hbn s8.lt, s9.under hbn s9.lt, s10.under hbn s10.lt, s11.trans (hbn.mono s11.size)⟩
    clear s0 s1 s2 s3 s4 s5 s6 s7 s8 s9 s10 s11
    clear HK HB13 HL0 HV hb1
    clear hbn
    obtain ⟨s0, s1, s2, s3, s4, s5, s6, s7, s8, s9, s10, s11⟩ := HB14.out
    have HB15 : Hid (Has v12 (w.heap.size) 24 #[.int .u32 (base.a : Nat), .int .u32 (base.b : Nat), .int .u32 (base.c : Nat), .int .u32 (base.d : Nat)] ∧ Has v12 (v2.heap.size) 26 (prA (upX base train a b)) ∧ Has v12 (v2.heap.size + 1) 26 (prA (upY base train a b)) ∧ Sl v12 1 A2 (datP (deriveF base a b) false train b xs).body.length c2 (u8s (datP (deriveF base a b) false train b xs).body) ∧ Has v12 (v4.heap.size) 30 (pdA (datP (deriveF base a b) false train b xs) A2 c2) ∧ Sl v12 1 A4 q.body.length c4 (u8s q.body) ∧ Has v12 (v6.heap.size) 30 (pdA (q) A4 c4) ∧ Has v12 (v8.heap.size) 26 (prA (askX base train a)) ∧ Has v12 (v8.heap.size + 1) 30 (pdA (askP train a) none 0) ∧ Has v12 (v10.heap.size) 26 (prA (agaY base train a b a b)) ∧ Has v12 (v10.heap.size + 1) 30 (pdA (ansP base train a b) none 0) ∧ Sl v12 1 A7 p2.body.length c7 (u8s p2.body) ∧ Below w.heap.size w v12) := Lib.hid ⟨s0, s1, s2, s3, s4, s5, s6, s7, s8, s9, s10, hs7.out, s11⟩
    clear s0 s1 s2 s3 s4 s5 s6 s7 s8 s9 s10 s11
    clear HB14
    clear hs7
    obtain ⟨s0, s1, s2, s3, s4, s5, s6, s7, s8, s9, s10, s11, s12⟩ := HB15.out
    have lt12_15 : v10.heap.size + 1 < v12.heap.size := s10.lt
    have le12_15 : w.heap.size ≤ v12.heap.size := s12.size
    have HS0 : Hid (Has (v12.alloc (.cells #[.int .i64 0, .int .i64 0, .int .i64 0, .int .u32 0, .int .u32 0, .slice none 0 0, .int .u64 0] 30)) (v12.heap.size) 30 #[.int .i64 0, .int .i64 0, .int .i64 0, .int .u32 0, .int .u32 0, .slice none 0 0, .int .u64 0]) := Lib.hid (Has.made v12 30 #[.int .i64 0, .int .i64 0, .int .i64 0, .int .u32 0, .int .u32 0, .slice none 0 0, .int .u64 0])
    obtain ⟨v13, hv13⟩ : ∃ v13, (v12.alloc (.cells #[.int .i64 0, .int .i64 0, .int .i64 0, .int .u32 0, .int .u32 0, .slice none 0 0, .int .u64 0] 30)).setRow (v12.heap.size) (pdA (p2) A7 c7) = v13 := ⟨_, rfl⟩
    have hbw : Below v12.heap.size v12 v13 := by rw [← hv13]; exact (below_row (g := v12.heap.size) (Below.alloc (Below.refl v12.heap.size v12) (Nat.le_refl _) (.cells #[.int .i64 0, .int .i64 0, .int .i64 0, .int .u32 0, .int .u32 0, .slice none 0 0, .int .u64 0] 30)) (by omega) (pdA (p2) A7 c7))
    have HB16 : Hid (Has v13 (w.heap.size) 24 #[.int .u32 (base.a : Nat), .int .u32 (base.b : Nat), .int .u32 (base.c : Nat), .int .u32 (base.d : Nat)] ∧ Has v13 (v2.heap.size) 26 (prA (upX base train a b)) ∧ Has v13 (v2.heap.size + 1) 26 (prA (upY base train a b)) ∧ Sl v13 1 A2 (datP (deriveF base a b) false train b xs).body.length c2 (u8s (datP (deriveF base a b) false train b xs).body) ∧ Has v13 (v4.heap.size) 30 (pdA (datP (deriveF base a b) false train b xs) A2 c2) ∧ Sl v13 1 A4 q.body.length c4 (u8s q.body) ∧ Has v13 (v6.heap.size) 30 (pdA (q) A4 c4) ∧ Has v13 (v8.heap.size) 26 (prA (askX base train a)) ∧ Has v13 (v8.heap.size + 1) 30 (pdA (askP train a) none 0) ∧ Has v13 (v10.heap.size) 26 (prA (agaY base train a b a b)) ∧ Has v13 (v10.heap.size + 1) 30 (pdA (ansP base train a b) none 0) ∧ Sl v13 1 A7 p2.body.length c7 (u8s p2.body) ∧ Has v13 (v12.heap.size) 30 (pdA (p2) A7 c7) ∧ Below w.heap.size w v13) := Lib.hid ⟨s0.under hbw s0.lt, s1.under hbw s1.lt, s2.under hbw s2.lt, s3.under hbw, s4.under hbw s4.lt, s5.under hbw, s6.under hbw s6.lt, s7.under hbw s7.lt, s8.under hbw s8.lt, s9.under hbw s9.lt, s10.under hbw s10.lt, s11.under hbw, (by rw [← hv13]; exact (has_setRow7 (Has.made v12 30 #[.int .i64 0, .int .i64 0, .int .i64 0, .int .u32 0, .int .u32 0, .slice none 0 0, .int .u64 0]) (pdA (p2) A7 c7))), s12.trans (hbw.mono s12.size)⟩
    clear hbw
    have HWv13 := Lib.hid hv13
    clear s0 s1 s2 s3 s4 s5 s6 s7 s8 s9 s10 s11 s12
    clear hv13 HB15
    go_upto_region 19 with (first | (with_reducible refine wpList_store_rowTo (o := ⟨none, _, _, _, _, _⟩) rfl 30 _ _ rfl rfl (v12.heap.size) (pdA (p2) A7 c7) rfl rfl 30 _ (HS0.out).raw (by kernel_rfl) (by kernel_rfl) (by kernel_rfl) ?_))
    rw [HWv13.out]
    clear HWv13 HS0
    cases is2
    · clear hq2 HC
      obtain ⟨s0, s1, s2, s3, s4, s5, s6, s7, s8, s9, s10, s11, s12, s13⟩ := HB16.out
      have HBF := Lib.hid s13
      clear s0 s1 s2 s3 s4 s5 s6 s7 s8 s9 s10 s11 s12 s13
      clear HB16 HSL HX8
      go_wp2
      go_ret
      exact ⟨rfl, HBF.out⟩
    · obtain ⟨hqo, hqn, hqr⟩ := hq2 rfl
      have hC := HC.out p2 A7 c7 hqo hqn
      have hg3 := con_bad (p := askX base train a) hqr
      generalize shConfirm (askX base train a) p2 = r3 at hC hg3
      obtain ⟨k1, k2, g3⟩ := r3
      unfold ShPost3 prV pdV at hC
      have HCC := Lib.hid hC
      have xg : (g3 != 0) = true := by simpa using hg3
      clear hq2 hqo hqn hqr hC hg3 HC
      obtain ⟨s0, s1, s2, s3, s4, s5, s6, s7, s8, s9, s10, s11, s12, s13⟩ := HB16.out
      have HL0 := Lib.hid s7
      have HL1 := Lib.hid s12
      have HK := Lib.hid (HCC.out v13 s11)
      clear s0 s1 s2 s3 s4 s5 s6 s7 s8 s9 s10 s11 s12 s13
      go_wp2_with (first | (with_reducible refine wpList_load_row (o := ⟨some 140, _, _, _, _, _⟩) rfl 26 _ rfl (v8.heap.size) rfl 26 (prA (askX base train a)) (0, 0) _ (HL0.out).raw Try.underlying26 rfl (by kernel_rfl) ?_) | (with_reducible refine wpList_load_row (o := ⟨some 141, _, _, _, _, _⟩) rfl 30 _ rfl (v12.heap.size) rfl 30 (pdA (p2) A7 c7) (0, 0) _ (HL1.out).raw Try.underlying30 rfl (by kernel_rfl) ?_))
      refine HK.out.mono ?_
      rintro e v14 ⟨rfl, hb1⟩
      obtain ⟨s0, s1, s2, s3, s4, s5, s6, s7, s8, s9, s10, s11, s12, s13⟩ := HB16.out
      have hbn : Below v13.heap.size v13 v14 := hb1
      have HB17 : Hid (Has v14 (w.heap.size) 24 #[.int .u32 (base.a : Nat), .int .u32 (base.b : Nat), .int .u32 (base.c : Nat), .int .u32 (base.d : Nat)] ∧ Has v14 (v2.heap.size) 26 (prA (upX base train a b)) ∧ Has v14 (v2.heap.size + 1) 26 (prA (upY base train a b)) ∧ Sl v14 1 A2 (datP (deriveF base a b) false train b xs).body.length c2 (u8s (datP (deriveF base a b) false train b xs).body) ∧ Has v14 (v4.heap.size) 30 (pdA (datP (deriveF base a b) false train b xs) A2 c2) ∧ Sl v14 1 A4 q.body.length c4 (u8s q.body) ∧ Has v14 (v6.heap.size) 30 (pdA (q) A4 c4) ∧ Has v14 (v8.heap.size) 26 (prA (askX base train a)) ∧ Has v14 (v8.heap.size + 1) 30 (pdA (askP train a) none 0) ∧ Has v14 (v10.heap.size) 26 (prA (agaY base train a b a b)) ∧ Has v14 (v10.heap.size + 1) 30 (pdA (ansP base train a b) none 0) ∧ Sl v14 1 A7 p2.body.length c7 (u8s p2.body) ∧ Has v14 (v12.heap.size) 30 (pdA (p2) A7 c7) ∧ Below w.heap.size w v14) := Lib.hid ⟨s0.under hbn s0.lt, s1.under hbn s1.lt, s2.under hbn s2.lt, s3.under hbn, s4.under hbn s4.lt, s5.under hbn, s6.under hbn s6.lt, s7.under hbn s7.lt, s8.under hbn s8.lt, s9.under hbn s9.lt, s10.under hbn s10.lt, s11.under hbn, s12.under hbn s12.lt, s13.trans (hbn.mono s13.size)⟩
      clear s0 s1 s2 s3 s4 s5 s6 s7 s8 s9 s10 s11 s12 s13
      clear HK HB16 HL0 HL1 HCC hb1
      clear hbn
      obtain ⟨s0, s1, s2, s3, s4, s5, s6, s7, s8, s9, s10, s11, s12, s13⟩ := HB17.out
      have lt14_17 : v12.heap.size < v14.heap.size := s12.lt
      have le14_17 : w.heap.size ≤ v14.heap.size := s13.size
      have HS0 : Hid (Has ((v14.alloc (.cells #[.int .i64 0, .int .i64 0, .int .u32 0, .int .u32 0, .int .u32 0, .int .u32 0, .int .i64 0, .int .u32 0, .int .u32 0, .int .u32 0, .int .u32 0, .int .u32 0, .int .u32 0, .bool false, .int .u32 0, .int .u32 0] 26)).alloc (.cells #[.int .i64 0, .int .i64 0, .int .i64 0, .int .u32 0, .int .u32 0, .slice none 0 0, .int .u64 0] 30)) (v14.heap.size) 26 #[.int .i64 0, .int .i64 0, .int .u32 0, .int .u32 0, .int .u32 0, .int .u32 0, .int .i64 0, .int .u32 0, .int .u32 0, .int .u32 0, .int .u32 0, .int .u32 0, .int .u32 0, .bool false, .int .u32 0, .int .u32 0]) := Lib.hid (Has.beside (Has.made v14 26 #[.int .i64 0, .int .i64 0, .int .u32 0, .int .u32 0, .int .u32 0, .int .u32 0, .int .i64 0, .int .u32 0, .int .u32 0, .int .u32 0, .int .u32 0, .int .u32 0, .int .u32 0, .bool false, .int .u32 0, .int .u32 0]) (.cells #[.int .i64 0, .int .i64 0, .int .i64 0, .int .u32 0, .int .u32 0, .slice none 0 0, .int .u64 0] 30))
      have HS1 : Hid (Has (((v14.alloc (.cells #[.int .i64 0, .int .i64 0, .int .u32 0, .int .u32 0, .int .u32 0, .int .u32 0, .int .i64 0, .int .u32 0, .int .u32 0, .int .u32 0, .int .u32 0, .int .u32 0, .int .u32 0, .bool false, .int .u32 0, .int .u32 0] 26)).alloc (.cells #[.int .i64 0, .int .i64 0, .int .i64 0, .int .u32 0, .int .u32 0, .slice none 0 0, .int .u64 0] 30)).setRow (v14.heap.size) (prA (k1))) (v14.heap.size + 1) 30 #[.int .i64 0, .int .i64 0, .int .i64 0, .int .u32 0, .int .u32 0, .slice none 0 0, .int .u64 0]) := Lib.hid (has_setRow_other7 (show Has ((v14.alloc (.cells #[.int .i64 0, .int .i64 0, .int .u32 0, .int .u32 0, .int .u32 0, .int .u32 0, .int .i64 0, .int .u32 0, .int .u32 0, .int .u32 0, .int .u32 0, .int .u32 0, .int .u32 0, .bool false, .int .u32 0, .int .u32 0] 26)).alloc (.cells #[.int .i64 0, .int .i64 0, .int .i64 0, .int .u32 0, .int .u32 0, .slice none 0 0, .int .u64 0] 30)) (v14.heap.size + 1) 30 #[.int .i64 0, .int .i64 0, .int .i64 0, .int .u32 0, .int .u32 0, .slice none 0 0, .int .u64 0] from has_at (by simp)) (by omega) (prA (k1)))
      obtain ⟨v15, hv15⟩ : ∃ v15, (((v14.alloc (.cells #[.int .i64 0, .int .i64 0, .int .u32 0, .int .u32 0, .int .u32 0, .int .u32 0, .int .i64 0, .int .u32 0, .int .u32 0, .int .u32 0, .int .u32 0, .int .u32 0, .int .u32 0, .bool false, .int .u32 0, .int .u32 0] 26)).alloc (.cells #[.int .i64 0, .int .i64 0, .int .i64 0, .int .u32 0, .int .u32 0, .slice none 0 0, .int .u64 0] 30)).setRow (v14.heap.size) (prA (k1))).setRow (v14.heap.size + 1) (pdA (k2) none 0) = v15 := ⟨_, rfl⟩
      have hbw : Below v14.heap.size v14 v15 := by rw [← hv15]; exact (below_row (g := v14.heap.size + 1) (below_row (g := v14.heap.size) (Below.alloc (Below.alloc (Below.refl v14.heap.size v14) (Nat.le_refl _) (.cells #[.int .i64 0, .int .i64 0, .int .u32 0, .int .u32 0, .int .u32 0, .int .u32 0, .int .i64 0, .int .u32 0, .int .u32 0, .int .u32 0, .int .u32 0, .int .u32 0, .int .u32 0, .bool false, .int .u32 0, .int .u32 0] 26)) (by simp) (.cells #[.int .i64 0, .int .i64 0, .int .i64 0, .int .u32 0, .int .u32 0, .slice none 0 0, .int .u64 0] 30)) (by omega) (prA (k1))) (by omega) (pdA (k2) none 0))
      have HB18 : Hid (Has v15 (w.heap.size) 24 #[.int .u32 (base.a : Nat), .int .u32 (base.b : Nat), .int .u32 (base.c : Nat), .int .u32 (base.d : Nat)] ∧ Has v15 (v2.heap.size) 26 (prA (upX base train a b)) ∧ Has v15 (v2.heap.size + 1) 26 (prA (upY base train a b)) ∧ Sl v15 1 A2 (datP (deriveF base a b) false train b xs).body.length c2 (u8s (datP (deriveF base a b) false train b xs).body) ∧ Has v15 (v4.heap.size) 30 (pdA (datP (deriveF base a b) false train b xs) A2 c2) ∧ Sl v15 1 A4 q.body.length c4 (u8s q.body) ∧ Has v15 (v6.heap.size) 30 (pdA (q) A4 c4) ∧ Has v15 (v8.heap.size) 26 (prA (askX base train a)) ∧ Has v15 (v8.heap.size + 1) 30 (pdA (askP train a) none 0) ∧ Has v15 (v10.heap.size) 26 (prA (agaY base train a b a b)) ∧ Has v15 (v10.heap.size + 1) 30 (pdA (ansP base train a b) none 0) ∧ Sl v15 1 A7 p2.body.length c7 (u8s p2.body) ∧ Has v15 (v12.heap.size) 30 (pdA (p2) A7 c7) ∧ Has v15 (v14.heap.size) 26 (prA (k1)) ∧ Has v15 (v14.heap.size + 1) 30 (pdA (k2) none 0) ∧ Below w.heap.size w v15) := Lib.hid ⟨s0.under hbw s0.lt, s1.under hbw s1.lt, s2.under hbw s2.lt, s3.under hbw, s4.under hbw s4.lt, s5.under hbw, s6.under hbw s6.lt, s7.under hbw s7.lt, s8.under hbw s8.lt, s9.under hbw s9.lt, s10.under hbw s10.lt, s11.under hbw, s12.under hbw s12.lt, (by rw [← hv15]; exact (has_setRow_other7 (has_setRow7 (Has.beside (Has.made v14 26 #[.int .i64 0, .int .i64 0, .int .u32 0, .int .u32 0, .int .u32 0, .int .u32 0, .int .i64 0, .int .u32 0, .int .u32 0, .int .u32 0, .int .u32 0, .int .u32 0, .int .u32 0, .bool false, .int .u32 0, .int .u32 0]) (.cells #[.int .i64 0, .int .i64 0, .int .i64 0, .int .u32 0, .int .u32 0, .slice none 0 0, .int .u64 0] 30)) (prA (k1))) (by omega) (pdA (k2) none 0))), (by rw [← hv15]; exact (has_setRow7 (has_setRow_other7 (show Has ((v14.alloc (.cells #[.int .i64 0, .int .i64 0, .int .u32 0, .int .u32 0, .int .u32 0, .int .u32 0, .int .i64 0, .int .u32 0, .int .u32 0, .int .u32 0, .int .u32 0, .int .u32 0, .int .u32 0, .bool false, .int .u32 0, .int .u32 0] 26)).alloc (.cells #[.int .i64 0, .int .i64 0, .int .i64 0, .int .u32 0, .int .u32 0, .slice none 0 0, .int .u64 0] 30)) (v14.heap.size + 1) 30 #[.int .i64 0, .int .i64 0, .int .i64 0, .int .u32 0, .int .u32 0, .slice none 0 0, .int .u64 0] from has_at (by simp)) (by omega) (prA (k1))) (pdA (k2) none 0))), s13.trans (hbw.mono s13.size)⟩
      clear hbw
      have HWv15 := Lib.hid hv15
      clear s0 s1 s2 s3 s4 s5 s6 s7 s8 s9 s10 s11 s12 s13
      clear hv15 HB17
      go_upto_region 21 with (first | (with_reducible refine wpList_store_rowTo (o := ⟨none, _, _, _, _, _⟩) rfl 26 _ _ rfl rfl (v14.heap.size) (prA (k1)) rfl rfl 26 _ (HS0.out).raw (by kernel_rfl) (by kernel_rfl) (by kernel_rfl) ?_) | (with_reducible refine wpList_store_rowTo (o := ⟨none, _, _, _, _, _⟩) rfl 30 _ _ rfl rfl (v14.heap.size + 1) (pdA (k2) none 0) rfl rfl 30 _ (HS1.out).raw (by kernel_rfl) (by kernel_rfl) (by kernel_rfl) ?_))
      rw [HWv15.out]
      clear HWv15 HS0 HS1
      obtain ⟨s0, s1, s2, s3, s4, s5, s6, s7, s8, s9, s10, s11, s12, s13, s14, s15⟩ := HB18.out
      have HBF := Lib.hid s15
      clear s0 s1 s2 s3 s4 s5 s6 s7 s8 s9 s10 s11 s12 s13 s14 s15
      clear HB18 HSL HX8
      go_wp2
      go_ret
      exact ⟨by simp, HBF.out⟩
  · obtain ⟨hqo, hqn, hqr⟩ := hq rfl
    have hT := HT.out q A4 c4 hqo hqn
    have hZ := HZ.out q A4 c4 hqo hqn
    have hg1 := take_bad (p := upE true base train a b) hqr
    have hg2 := close_bad (p := upE true base train a b) hqr
    generalize shTake (upE true base train a b) q = r1 at hT hg1
    generalize shClose (upE true base train a b) q = r2 at hZ hg2
    obtain ⟨t1, g1⟩ := r1
    obtain ⟨t2, g2⟩ := r2
    unfold ShPostT at hT
    unfold ShPost2 prV at hZ
    have HTT := Lib.hid hT; have HZZ := Lib.hid hZ
    have xg1 : (g1 == 0) = false := by simpa using hg1
    have xg2 : (g2 == 0) = false := by simpa using hg2
    clear hq hqo hqn hqr hT hZ hg1 hg2 HT HZ
    obtain ⟨s0, s1, s2, s3, s4, s5, s6, s7⟩ := HB9.out
    have HL0 := Lib.hid s2
    have HL1 := Lib.hid s6
    have HK := Lib.hid (HTT.out v7 s5)
    clear s0 s1 s2 s3 s4 s5 s6 s7
    go_wp2_with (first | (with_reducible refine wpList_load_row (o := ⟨some 93, _, _, _, _, _⟩) rfl 26 _ rfl (v2.heap.size + 1) rfl 26 (prA (upY base train a b)) (0, 0) _ (HL0.out).raw Try.underlying26 rfl (by kernel_rfl) ?_) | (with_reducible refine wpList_load_row (o := ⟨some 94, _, _, _, _, _⟩) rfl 30 _ rfl (v6.heap.size) rfl 30 (pdA (q) A4 c4) (0, 0) _ (HL1.out).raw Try.underlying30 rfl (by kernel_rfl) ?_))
    refine HK.out.mono ?_
    rintro e v8 ⟨A5, c5, rfl, _, _, hb1⟩
    obtain ⟨s0, s1, s2, s3, s4, s5, s6, s7⟩ := HB9.out
    have hbn : Below v7.heap.size v7 v8 := hb1.out
    have HB10 : Hid (Has v8 (w.heap.size) 24 #[.int .u32 (base.a : Nat), .int .u32 (base.b : Nat), .int .u32 (base.c : Nat), .int .u32 (base.d : Nat)] ∧ Has v8 (v2.heap.size) 26 (prA (upX base train a b)) ∧ Has v8 (v2.heap.size + 1) 26 (prA (upY base train a b)) ∧ Sl v8 1 A2 (datP (deriveF base a b) false train b xs).body.length c2 (u8s (datP (deriveF base a b) false train b xs).body) ∧ Has v8 (v4.heap.size) 30 (pdA (datP (deriveF base a b) false train b xs) A2 c2) ∧ Sl v8 1 A4 q.body.length c4 (u8s q.body) ∧ Has v8 (v6.heap.size) 30 (pdA (q) A4 c4) ∧ Below w.heap.size w v8) := Lib.hid ⟨s0.under hbn s0.lt, s1.under hbn s1.lt, s2.under hbn s2.lt, s3.under hbn, s4.under hbn s4.lt, s5.under hbn, s6.under hbn s6.lt, s7.trans (hbn.mono s7.size)⟩
    clear s0 s1 s2 s3 s4 s5 s6 s7
    clear HK HB9 HL0 HL1 HTT hb1
    clear hbn
    obtain ⟨s0, s1, s2, s3, s4, s5, s6, s7⟩ := HB10.out
    have HL0 := Lib.hid s2
    have HL1 := Lib.hid s6
    have HK := Lib.hid (HZZ.out v8 s5)
    clear s0 s1 s2 s3 s4 s5 s6 s7
    go_wp2_with (first | (with_reducible refine wpList_load_row (o := ⟨some 99, _, _, _, _, _⟩) rfl 26 _ rfl (v2.heap.size + 1) rfl 26 (prA (upY base train a b)) (0, 0) _ (HL0.out).raw Try.underlying26 rfl (by kernel_rfl) ?_) | (with_reducible refine wpList_load_row (o := ⟨some 100, _, _, _, _, _⟩) rfl 30 _ rfl (v6.heap.size) rfl 30 (pdA (q) A4 c4) (0, 0) _ (HL1.out).raw Try.underlying30 rfl (by kernel_rfl) ?_))
    refine HK.out.mono ?_
    rintro e v9 ⟨rfl, hb1⟩
    obtain ⟨s0, s1, s2, s3, s4, s5, s6, s7⟩ := HB10.out
    have hbn : Below v8.heap.size v8 v9 := hb1
    have HB11 : Hid (Has v9 (w.heap.size) 24 #[.int .u32 (base.a : Nat), .int .u32 (base.b : Nat), .int .u32 (base.c : Nat), .int .u32 (base.d : Nat)] ∧ Has v9 (v2.heap.size) 26 (prA (upX base train a b)) ∧ Has v9 (v2.heap.size + 1) 26 (prA (upY base train a b)) ∧ Sl v9 1 A2 (datP (deriveF base a b) false train b xs).body.length c2 (u8s (datP (deriveF base a b) false train b xs).body) ∧ Has v9 (v4.heap.size) 30 (pdA (datP (deriveF base a b) false train b xs) A2 c2) ∧ Sl v9 1 A4 q.body.length c4 (u8s q.body) ∧ Has v9 (v6.heap.size) 30 (pdA (q) A4 c4) ∧ Below w.heap.size w v9) := Lib.hid ⟨s0.under hbn s0.lt, s1.under hbn s1.lt, s2.under hbn s2.lt, s3.under hbn, s4.under hbn s4.lt, s5.under hbn, s6.under hbn s6.lt, s7.trans (hbn.mono s7.size)⟩
    clear s0 s1 s2 s3 s4 s5 s6 s7
    clear HK HB10 HL0 HL1 HZZ hb1
    clear hbn
    obtain ⟨s0, s1, s2, s3, s4, s5, s6, s7⟩ := HB11.out
    have lt9_11 : v6.heap.size < v9.heap.size := s6.lt
    have le9_11 : w.heap.size ≤ v9.heap.size := s7.size
    have HS0 : Hid (Has (v9.alloc (.cells #[.int .i64 0, .int .i64 0, .int .u32 0, .int .u32 0, .int .u32 0, .int .u32 0, .int .i64 0, .int .u32 0, .int .u32 0, .int .u32 0, .int .u32 0, .int .u32 0, .int .u32 0, .bool false, .int .u32 0, .int .u32 0] 26)) (v9.heap.size) 26 #[.int .i64 0, .int .i64 0, .int .u32 0, .int .u32 0, .int .u32 0, .int .u32 0, .int .i64 0, .int .u32 0, .int .u32 0, .int .u32 0, .int .u32 0, .int .u32 0, .int .u32 0, .bool false, .int .u32 0, .int .u32 0]) := Lib.hid (Has.made v9 26 #[.int .i64 0, .int .i64 0, .int .u32 0, .int .u32 0, .int .u32 0, .int .u32 0, .int .i64 0, .int .u32 0, .int .u32 0, .int .u32 0, .int .u32 0, .int .u32 0, .int .u32 0, .bool false, .int .u32 0, .int .u32 0])
    obtain ⟨v10, hv10⟩ : ∃ v10, (v9.alloc (.cells #[.int .i64 0, .int .i64 0, .int .u32 0, .int .u32 0, .int .u32 0, .int .u32 0, .int .i64 0, .int .u32 0, .int .u32 0, .int .u32 0, .int .u32 0, .int .u32 0, .int .u32 0, .bool false, .int .u32 0, .int .u32 0] 26)).setRow (v9.heap.size) (prA (t2)) = v10 := ⟨_, rfl⟩
    have hbw : Below v9.heap.size v9 v10 := by rw [← hv10]; exact (below_row (g := v9.heap.size) (Below.alloc (Below.refl v9.heap.size v9) (Nat.le_refl _) (.cells #[.int .i64 0, .int .i64 0, .int .u32 0, .int .u32 0, .int .u32 0, .int .u32 0, .int .i64 0, .int .u32 0, .int .u32 0, .int .u32 0, .int .u32 0, .int .u32 0, .int .u32 0, .bool false, .int .u32 0, .int .u32 0] 26)) (by omega) (prA (t2)))
    have HB12 : Hid (Has v10 (w.heap.size) 24 #[.int .u32 (base.a : Nat), .int .u32 (base.b : Nat), .int .u32 (base.c : Nat), .int .u32 (base.d : Nat)] ∧ Has v10 (v2.heap.size) 26 (prA (upX base train a b)) ∧ Has v10 (v2.heap.size + 1) 26 (prA (upY base train a b)) ∧ Sl v10 1 A2 (datP (deriveF base a b) false train b xs).body.length c2 (u8s (datP (deriveF base a b) false train b xs).body) ∧ Has v10 (v4.heap.size) 30 (pdA (datP (deriveF base a b) false train b xs) A2 c2) ∧ Sl v10 1 A4 q.body.length c4 (u8s q.body) ∧ Has v10 (v6.heap.size) 30 (pdA (q) A4 c4) ∧ Has v10 (v9.heap.size) 26 (prA (t2)) ∧ Below w.heap.size w v10) := Lib.hid ⟨s0.under hbw s0.lt, s1.under hbw s1.lt, s2.under hbw s2.lt, s3.under hbw, s4.under hbw s4.lt, s5.under hbw, s6.under hbw s6.lt, (by rw [← hv10]; exact (has_setRow7 (Has.made v9 26 #[.int .i64 0, .int .i64 0, .int .u32 0, .int .u32 0, .int .u32 0, .int .u32 0, .int .i64 0, .int .u32 0, .int .u32 0, .int .u32 0, .int .u32 0, .int .u32 0, .int .u32 0, .bool false, .int .u32 0, .int .u32 0]) (prA (t2)))), s7.trans (hbw.mono s7.size)⟩
    clear hbw
    have HWv10 := Lib.hid hv10
    clear s0 s1 s2 s3 s4 s5 s6 s7
    clear hv10 HB11
    go_upto_region 14 with (first | (with_reducible refine wpList_store_rowTo (o := ⟨none, _, _, _, _, _⟩) rfl 26 _ _ rfl rfl (v9.heap.size) (prA (t2)) rfl rfl 26 _ (HS0.out).raw (by kernel_rfl) (by kernel_rfl) (by kernel_rfl) ?_))
    rw [HWv10.out]
    clear HWv10 HS0
    clear xg1 xg2
    obtain ⟨s0, s1, s2, s3, s4, s5, s6, s7, s8⟩ := HB12.out
    have HL0 := Lib.hid s1
    have HK := Lib.hid (HA.out v10)
    clear s0 s1 s2 s3 s4 s5 s6 s7 s8
    go_wp2_with (first | (with_reducible refine wpList_load_row (o := ⟨some 111, _, _, _, _, _⟩) rfl 26 _ rfl (v2.heap.size) rfl 26 (prA (upX base train a b)) (0, 0) _ (HL0.out).raw Try.underlying26 rfl (by kernel_rfl) ?_))
    refine HK.out.mono ?_
    rintro e v11 ⟨rfl, hb1⟩
    obtain ⟨s0, s1, s2, s3, s4, s5, s6, s7, s8⟩ := HB12.out
    have hbn : Below v10.heap.size v10 v11 := hb1
    have HB13 : Hid (Has v11 (w.heap.size) 24 #[.int .u32 (base.a : Nat), .int .u32 (base.b : Nat), .int .u32 (base.c : Nat), .int .u32 (base.d : Nat)] ∧ Has v11 (v2.heap.size) 26 (prA (upX base train a b)) ∧ Has v11 (v2.heap.size + 1) 26 (prA (upY base train a b)) ∧ Sl v11 1 A2 (datP (deriveF base a b) false train b xs).body.length c2 (u8s (datP (deriveF base a b) false train b xs).body) ∧ Has v11 (v4.heap.size) 30 (pdA (datP (deriveF base a b) false train b xs) A2 c2) ∧ Sl v11 1 A4 q.body.length c4 (u8s q.body) ∧ Has v11 (v6.heap.size) 30 (pdA (q) A4 c4) ∧ Has v11 (v9.heap.size) 26 (prA (t2)) ∧ Below w.heap.size w v11) := Lib.hid ⟨s0.under hbn s0.lt, s1.under hbn s1.lt, s2.under hbn s2.lt, s3.under hbn, s4.under hbn s4.lt, s5.under hbn, s6.under hbn s6.lt, s7.under hbn s7.lt, s8.trans (hbn.mono s8.size)⟩
    clear s0 s1 s2 s3 s4 s5 s6 s7 s8
    clear HK HB12 HL0 HA hb1
    clear hbn
    obtain ⟨s0, s1, s2, s3, s4, s5, s6, s7, s8⟩ := HB13.out
    have lt11_13 : v9.heap.size < v11.heap.size := s7.lt
    have le11_13 : w.heap.size ≤ v11.heap.size := s8.size
    have HS0 : Hid (Has ((v11.alloc (.cells #[.int .i64 0, .int .i64 0, .int .u32 0, .int .u32 0, .int .u32 0, .int .u32 0, .int .i64 0, .int .u32 0, .int .u32 0, .int .u32 0, .int .u32 0, .int .u32 0, .int .u32 0, .bool false, .int .u32 0, .int .u32 0] 26)).alloc (.cells #[.int .i64 0, .int .i64 0, .int .i64 0, .int .u32 0, .int .u32 0, .slice none 0 0, .int .u64 0] 30)) (v11.heap.size) 26 #[.int .i64 0, .int .i64 0, .int .u32 0, .int .u32 0, .int .u32 0, .int .u32 0, .int .i64 0, .int .u32 0, .int .u32 0, .int .u32 0, .int .u32 0, .int .u32 0, .int .u32 0, .bool false, .int .u32 0, .int .u32 0]) := Lib.hid (Has.beside (Has.made v11 26 #[.int .i64 0, .int .i64 0, .int .u32 0, .int .u32 0, .int .u32 0, .int .u32 0, .int .i64 0, .int .u32 0, .int .u32 0, .int .u32 0, .int .u32 0, .int .u32 0, .int .u32 0, .bool false, .int .u32 0, .int .u32 0]) (.cells #[.int .i64 0, .int .i64 0, .int .i64 0, .int .u32 0, .int .u32 0, .slice none 0 0, .int .u64 0] 30))
    have HS1 : Hid (Has (((v11.alloc (.cells #[.int .i64 0, .int .i64 0, .int .u32 0, .int .u32 0, .int .u32 0, .int .u32 0, .int .i64 0, .int .u32 0, .int .u32 0, .int .u32 0, .int .u32 0, .int .u32 0, .int .u32 0, .bool false, .int .u32 0, .int .u32 0] 26)).alloc (.cells #[.int .i64 0, .int .i64 0, .int .i64 0, .int .u32 0, .int .u32 0, .slice none 0 0, .int .u64 0] 30)).setRow (v11.heap.size) (prA (askX base train a))) (v11.heap.size + 1) 30 #[.int .i64 0, .int .i64 0, .int .i64 0, .int .u32 0, .int .u32 0, .slice none 0 0, .int .u64 0]) := Lib.hid (has_setRow_other7 (show Has ((v11.alloc (.cells #[.int .i64 0, .int .i64 0, .int .u32 0, .int .u32 0, .int .u32 0, .int .u32 0, .int .i64 0, .int .u32 0, .int .u32 0, .int .u32 0, .int .u32 0, .int .u32 0, .int .u32 0, .bool false, .int .u32 0, .int .u32 0] 26)).alloc (.cells #[.int .i64 0, .int .i64 0, .int .i64 0, .int .u32 0, .int .u32 0, .slice none 0 0, .int .u64 0] 30)) (v11.heap.size + 1) 30 #[.int .i64 0, .int .i64 0, .int .i64 0, .int .u32 0, .int .u32 0, .slice none 0 0, .int .u64 0] from has_at (by simp)) (by omega) (prA (askX base train a)))
    obtain ⟨v12, hv12⟩ : ∃ v12, (((v11.alloc (.cells #[.int .i64 0, .int .i64 0, .int .u32 0, .int .u32 0, .int .u32 0, .int .u32 0, .int .i64 0, .int .u32 0, .int .u32 0, .int .u32 0, .int .u32 0, .int .u32 0, .int .u32 0, .bool false, .int .u32 0, .int .u32 0] 26)).alloc (.cells #[.int .i64 0, .int .i64 0, .int .i64 0, .int .u32 0, .int .u32 0, .slice none 0 0, .int .u64 0] 30)).setRow (v11.heap.size) (prA (askX base train a))).setRow (v11.heap.size + 1) (pdA (askP train a) none 0) = v12 := ⟨_, rfl⟩
    have hbw : Below v11.heap.size v11 v12 := by rw [← hv12]; exact (below_row (g := v11.heap.size + 1) (below_row (g := v11.heap.size) (Below.alloc (Below.alloc (Below.refl v11.heap.size v11) (Nat.le_refl _) (.cells #[.int .i64 0, .int .i64 0, .int .u32 0, .int .u32 0, .int .u32 0, .int .u32 0, .int .i64 0, .int .u32 0, .int .u32 0, .int .u32 0, .int .u32 0, .int .u32 0, .int .u32 0, .bool false, .int .u32 0, .int .u32 0] 26)) (by simp) (.cells #[.int .i64 0, .int .i64 0, .int .i64 0, .int .u32 0, .int .u32 0, .slice none 0 0, .int .u64 0] 30)) (by omega) (prA (askX base train a))) (by omega) (pdA (askP train a) none 0))
    have HB14 : Hid (Has v12 (w.heap.size) 24 #[.int .u32 (base.a : Nat), .int .u32 (base.b : Nat), .int .u32 (base.c : Nat), .int .u32 (base.d : Nat)] ∧ Has v12 (v2.heap.size) 26 (prA (upX base train a b)) ∧ Has v12 (v2.heap.size + 1) 26 (prA (upY base train a b)) ∧ Sl v12 1 A2 (datP (deriveF base a b) false train b xs).body.length c2 (u8s (datP (deriveF base a b) false train b xs).body) ∧ Has v12 (v4.heap.size) 30 (pdA (datP (deriveF base a b) false train b xs) A2 c2) ∧ Sl v12 1 A4 q.body.length c4 (u8s q.body) ∧ Has v12 (v6.heap.size) 30 (pdA (q) A4 c4) ∧ Has v12 (v9.heap.size) 26 (prA (t2)) ∧ Has v12 (v11.heap.size) 26 (prA (askX base train a)) ∧ Has v12 (v11.heap.size + 1) 30 (pdA (askP train a) none 0) ∧ Below w.heap.size w v12) := Lib.hid ⟨s0.under hbw s0.lt, s1.under hbw s1.lt, s2.under hbw s2.lt, s3.under hbw, s4.under hbw s4.lt, s5.under hbw, s6.under hbw s6.lt, s7.under hbw s7.lt, (by rw [← hv12]; exact (has_setRow_other7 (has_setRow7 (Has.beside (Has.made v11 26 #[.int .i64 0, .int .i64 0, .int .u32 0, .int .u32 0, .int .u32 0, .int .u32 0, .int .i64 0, .int .u32 0, .int .u32 0, .int .u32 0, .int .u32 0, .int .u32 0, .int .u32 0, .bool false, .int .u32 0, .int .u32 0]) (.cells #[.int .i64 0, .int .i64 0, .int .i64 0, .int .u32 0, .int .u32 0, .slice none 0 0, .int .u64 0] 30)) (prA (askX base train a))) (by omega) (pdA (askP train a) none 0))), (by rw [← hv12]; exact (has_setRow7 (has_setRow_other7 (show Has ((v11.alloc (.cells #[.int .i64 0, .int .i64 0, .int .u32 0, .int .u32 0, .int .u32 0, .int .u32 0, .int .i64 0, .int .u32 0, .int .u32 0, .int .u32 0, .int .u32 0, .int .u32 0, .int .u32 0, .bool false, .int .u32 0, .int .u32 0] 26)).alloc (.cells #[.int .i64 0, .int .i64 0, .int .i64 0, .int .u32 0, .int .u32 0, .slice none 0 0, .int .u64 0] 30)) (v11.heap.size + 1) 30 #[.int .i64 0, .int .i64 0, .int .i64 0, .int .u32 0, .int .u32 0, .slice none 0 0, .int .u64 0] from has_at (by simp)) (by omega) (prA (askX base train a))) (pdA (askP train a) none 0))), s8.trans (hbw.mono s8.size)⟩
    clear hbw
    have HWv12 := Lib.hid hv12
    clear s0 s1 s2 s3 s4 s5 s6 s7 s8
    clear hv12 HB13
    go_upto_region 15 with (first | (with_reducible refine wpList_store_rowTo (o := ⟨none, _, _, _, _, _⟩) rfl 26 _ _ rfl rfl (v11.heap.size) (prA (askX base train a)) rfl rfl 26 _ (HS0.out).raw (by kernel_rfl) (by kernel_rfl) (by kernel_rfl) ?_) | (with_reducible refine wpList_store_rowTo (o := ⟨none, _, _, _, _, _⟩) rfl 30 _ _ rfl rfl (v11.heap.size + 1) (pdA (askP train a) none 0) rfl rfl 30 _ (HS1.out).raw (by kernel_rfl) (by kernel_rfl) (by kernel_rfl) ?_))
    rw [HWv12.out]
    clear HWv12 HS0 HS1
    obtain ⟨s0, s1, s2, s3, s4, s5, s6, s7, s8, s9, s10⟩ := HB14.out
    have HL0 := Lib.hid s2
    have HL1 := Lib.hid s9
    have HK := Lib.hid (HN.out v12)
    clear s0 s1 s2 s3 s4 s5 s6 s7 s8 s9 s10
    go_wp2_with (first | (with_reducible refine wpList_load_row (o := ⟨some 118, _, _, _, _, _⟩) rfl 26 _ rfl (v2.heap.size + 1) rfl 26 (prA (upY base train a b)) (0, 0) _ (HL0.out).raw Try.underlying26 rfl (by kernel_rfl) ?_) | (with_reducible refine wpList_load_row (o := ⟨some 119, _, _, _, _, _⟩) rfl 30 _ rfl (v11.heap.size + 1) rfl 30 (pdA (askP train a) none 0) (0, 0) _ (HL1.out).raw Try.underlying30 rfl (by kernel_rfl) ?_))
    refine HK.out.mono ?_
    rintro e v13 ⟨rfl, hb1⟩
    obtain ⟨s0, s1, s2, s3, s4, s5, s6, s7, s8, s9, s10⟩ := HB14.out
    have hbn : Below v12.heap.size v12 v13 := hb1
    have HB15 : Hid (Has v13 (w.heap.size) 24 #[.int .u32 (base.a : Nat), .int .u32 (base.b : Nat), .int .u32 (base.c : Nat), .int .u32 (base.d : Nat)] ∧ Has v13 (v2.heap.size) 26 (prA (upX base train a b)) ∧ Has v13 (v2.heap.size + 1) 26 (prA (upY base train a b)) ∧ Sl v13 1 A2 (datP (deriveF base a b) false train b xs).body.length c2 (u8s (datP (deriveF base a b) false train b xs).body) ∧ Has v13 (v4.heap.size) 30 (pdA (datP (deriveF base a b) false train b xs) A2 c2) ∧ Sl v13 1 A4 q.body.length c4 (u8s q.body) ∧ Has v13 (v6.heap.size) 30 (pdA (q) A4 c4) ∧ Has v13 (v9.heap.size) 26 (prA (t2)) ∧ Has v13 (v11.heap.size) 26 (prA (askX base train a)) ∧ Has v13 (v11.heap.size + 1) 30 (pdA (askP train a) none 0) ∧ Below w.heap.size w v13) := Lib.hid ⟨s0.under hbn s0.lt, s1.under hbn s1.lt, s2.under hbn s2.lt, s3.under hbn, s4.under hbn s4.lt, s5.under hbn, s6.under hbn s6.lt, s7.under hbn s7.lt, s8.under hbn s8.lt, s9.under hbn s9.lt, s10.trans (hbn.mono s10.size)⟩
    clear s0 s1 s2 s3 s4 s5 s6 s7 s8 s9 s10
    clear HK HB14 HL0 HL1 HN hb1
    clear hbn
    obtain ⟨s0, s1, s2, s3, s4, s5, s6, s7, s8, s9, s10⟩ := HB15.out
    have lt13_15 : v11.heap.size + 1 < v13.heap.size := s9.lt
    have le13_15 : w.heap.size ≤ v13.heap.size := s10.size
    have HS0 : Hid (Has ((v13.alloc (.cells #[.int .i64 0, .int .i64 0, .int .u32 0, .int .u32 0, .int .u32 0, .int .u32 0, .int .i64 0, .int .u32 0, .int .u32 0, .int .u32 0, .int .u32 0, .int .u32 0, .int .u32 0, .bool false, .int .u32 0, .int .u32 0] 26)).alloc (.cells #[.int .i64 0, .int .i64 0, .int .i64 0, .int .u32 0, .int .u32 0, .slice none 0 0, .int .u64 0] 30)) (v13.heap.size) 26 #[.int .i64 0, .int .i64 0, .int .u32 0, .int .u32 0, .int .u32 0, .int .u32 0, .int .i64 0, .int .u32 0, .int .u32 0, .int .u32 0, .int .u32 0, .int .u32 0, .int .u32 0, .bool false, .int .u32 0, .int .u32 0]) := Lib.hid (Has.beside (Has.made v13 26 #[.int .i64 0, .int .i64 0, .int .u32 0, .int .u32 0, .int .u32 0, .int .u32 0, .int .i64 0, .int .u32 0, .int .u32 0, .int .u32 0, .int .u32 0, .int .u32 0, .int .u32 0, .bool false, .int .u32 0, .int .u32 0]) (.cells #[.int .i64 0, .int .i64 0, .int .i64 0, .int .u32 0, .int .u32 0, .slice none 0 0, .int .u64 0] 30))
    have HS1 : Hid (Has (((v13.alloc (.cells #[.int .i64 0, .int .i64 0, .int .u32 0, .int .u32 0, .int .u32 0, .int .u32 0, .int .i64 0, .int .u32 0, .int .u32 0, .int .u32 0, .int .u32 0, .int .u32 0, .int .u32 0, .bool false, .int .u32 0, .int .u32 0] 26)).alloc (.cells #[.int .i64 0, .int .i64 0, .int .i64 0, .int .u32 0, .int .u32 0, .slice none 0 0, .int .u64 0] 30)).setRow (v13.heap.size) (prA (agaY base train a b a b))) (v13.heap.size + 1) 30 #[.int .i64 0, .int .i64 0, .int .i64 0, .int .u32 0, .int .u32 0, .slice none 0 0, .int .u64 0]) := Lib.hid (has_setRow_other7 (show Has ((v13.alloc (.cells #[.int .i64 0, .int .i64 0, .int .u32 0, .int .u32 0, .int .u32 0, .int .u32 0, .int .i64 0, .int .u32 0, .int .u32 0, .int .u32 0, .int .u32 0, .int .u32 0, .int .u32 0, .bool false, .int .u32 0, .int .u32 0] 26)).alloc (.cells #[.int .i64 0, .int .i64 0, .int .i64 0, .int .u32 0, .int .u32 0, .slice none 0 0, .int .u64 0] 30)) (v13.heap.size + 1) 30 #[.int .i64 0, .int .i64 0, .int .i64 0, .int .u32 0, .int .u32 0, .slice none 0 0, .int .u64 0] from has_at (by simp)) (by omega) (prA (agaY base train a b a b)))
    obtain ⟨v14, hv14⟩ : ∃ v14, (((v13.alloc (.cells #[.int .i64 0, .int .i64 0, .int .u32 0, .int .u32 0, .int .u32 0, .int .u32 0, .int .i64 0, .int .u32 0, .int .u32 0, .int .u32 0, .int .u32 0, .int .u32 0, .int .u32 0, .bool false, .int .u32 0, .int .u32 0] 26)).alloc (.cells #[.int .i64 0, .int .i64 0, .int .i64 0, .int .u32 0, .int .u32 0, .slice none 0 0, .int .u64 0] 30)).setRow (v13.heap.size) (prA (agaY base train a b a b))).setRow (v13.heap.size + 1) (pdA (ansP base train a b) none 0) = v14 := ⟨_, rfl⟩
    have hbw : Below v13.heap.size v13 v14 := by rw [← hv14]; exact (below_row (g := v13.heap.size + 1) (below_row (g := v13.heap.size) (Below.alloc (Below.alloc (Below.refl v13.heap.size v13) (Nat.le_refl _) (.cells #[.int .i64 0, .int .i64 0, .int .u32 0, .int .u32 0, .int .u32 0, .int .u32 0, .int .i64 0, .int .u32 0, .int .u32 0, .int .u32 0, .int .u32 0, .int .u32 0, .int .u32 0, .bool false, .int .u32 0, .int .u32 0] 26)) (by simp) (.cells #[.int .i64 0, .int .i64 0, .int .i64 0, .int .u32 0, .int .u32 0, .slice none 0 0, .int .u64 0] 30)) (by omega) (prA (agaY base train a b a b))) (by omega) (pdA (ansP base train a b) none 0))
    have HB16 : Hid (Has v14 (w.heap.size) 24 #[.int .u32 (base.a : Nat), .int .u32 (base.b : Nat), .int .u32 (base.c : Nat), .int .u32 (base.d : Nat)] ∧ Has v14 (v2.heap.size) 26 (prA (upX base train a b)) ∧ Has v14 (v2.heap.size + 1) 26 (prA (upY base train a b)) ∧ Sl v14 1 A2 (datP (deriveF base a b) false train b xs).body.length c2 (u8s (datP (deriveF base a b) false train b xs).body) ∧ Has v14 (v4.heap.size) 30 (pdA (datP (deriveF base a b) false train b xs) A2 c2) ∧ Sl v14 1 A4 q.body.length c4 (u8s q.body) ∧ Has v14 (v6.heap.size) 30 (pdA (q) A4 c4) ∧ Has v14 (v9.heap.size) 26 (prA (t2)) ∧ Has v14 (v11.heap.size) 26 (prA (askX base train a)) ∧ Has v14 (v11.heap.size + 1) 30 (pdA (askP train a) none 0) ∧ Has v14 (v13.heap.size) 26 (prA (agaY base train a b a b)) ∧ Has v14 (v13.heap.size + 1) 30 (pdA (ansP base train a b) none 0) ∧ Below w.heap.size w v14) := Lib.hid ⟨s0.under hbw s0.lt, s1.under hbw s1.lt, s2.under hbw s2.lt, s3.under hbw, s4.under hbw s4.lt, s5.under hbw, s6.under hbw s6.lt, s7.under hbw s7.lt, s8.under hbw s8.lt, s9.under hbw s9.lt, (by rw [← hv14]; exact (has_setRow_other7 (has_setRow7 (Has.beside (Has.made v13 26 #[.int .i64 0, .int .i64 0, .int .u32 0, .int .u32 0, .int .u32 0, .int .u32 0, .int .i64 0, .int .u32 0, .int .u32 0, .int .u32 0, .int .u32 0, .int .u32 0, .int .u32 0, .bool false, .int .u32 0, .int .u32 0]) (.cells #[.int .i64 0, .int .i64 0, .int .i64 0, .int .u32 0, .int .u32 0, .slice none 0 0, .int .u64 0] 30)) (prA (agaY base train a b a b))) (by omega) (pdA (ansP base train a b) none 0))), (by rw [← hv14]; exact (has_setRow7 (has_setRow_other7 (show Has ((v13.alloc (.cells #[.int .i64 0, .int .i64 0, .int .u32 0, .int .u32 0, .int .u32 0, .int .u32 0, .int .i64 0, .int .u32 0, .int .u32 0, .int .u32 0, .int .u32 0, .int .u32 0, .int .u32 0, .bool false, .int .u32 0, .int .u32 0] 26)).alloc (.cells #[.int .i64 0, .int .i64 0, .int .i64 0, .int .u32 0, .int .u32 0, .slice none 0 0, .int .u64 0] 30)) (v13.heap.size + 1) 30 #[.int .i64 0, .int .i64 0, .int .i64 0, .int .u32 0, .int .u32 0, .slice none 0 0, .int .u64 0] from has_at (by simp)) (by omega) (prA (agaY base train a b a b))) (pdA (ansP base train a b) none 0))), s10.trans (hbw.mono s10.size)⟩
    clear hbw
    have HWv14 := Lib.hid hv14
    clear s0 s1 s2 s3 s4 s5 s6 s7 s8 s9 s10
    clear hv14 HB15
    go_upto_region 18 with (first | (with_reducible refine wpList_store_rowTo (o := ⟨none, _, _, _, _, _⟩) rfl 26 _ _ rfl rfl (v13.heap.size) (prA (agaY base train a b a b)) rfl rfl 26 _ (HS0.out).raw (by kernel_rfl) (by kernel_rfl) (by kernel_rfl) ?_) | (with_reducible refine wpList_store_rowTo (o := ⟨none, _, _, _, _, _⟩) rfl 30 _ _ rfl rfl (v13.heap.size + 1) (pdA (ansP base train a b) none 0) rfl rfl 30 _ (HS1.out).raw (by kernel_rfl) (by kernel_rfl) (by kernel_rfl) ?_))
    rw [HWv14.out]
    clear HWv14 HS0 HS1
    obtain ⟨s0, s1, s2, s3, s4, s5, s6, s7, s8, s9, s10, s11, s12⟩ := HB16.out
    have HL0 := Lib.hid s11
    have HK := Lib.hid (HV.out v14)
    clear s0 s1 s2 s3 s4 s5 s6 s7 s8 s9 s10 s11 s12
    go_wp2_with (first | (with_reducible refine wpList_load_row (o := ⟨some 132, _, _, _, _, _⟩) rfl 30 _ rfl (v13.heap.size + 1) rfl 30 (pdA (ansP base train a b) none 0) (0, 0) _ (HL0.out).raw Try.underlying30 rfl (by kernel_rfl) ?_))
    refine HK.out.mono ?_
    rintro e v15 ⟨p2, A7, c7, is2, rfl, hq2, hs7, _, hb1⟩
    obtain ⟨s0, s1, s2, s3, s4, s5, s6, s7, s8, s9, s10, s11, s12⟩ := HB16.out
    have hbn : Below v14.heap.size v14 v15 := hb1.out
    have HB17 : Hid (Has v15 (w.heap.size) 24 #[.int .u32 (base.a : Nat), .int .u32 (base.b : Nat), .int .u32 (base.c : Nat), .int .u32 (base.d : Nat)] ∧ Has v15 (v2.heap.size) 26 (prA (upX base train a b)) ∧ Has v15 (v2.heap.size + 1) 26 (prA (upY base train a b)) ∧ Sl v15 1 A2 (datP (deriveF base a b) false train b xs).body.length c2 (u8s (datP (deriveF base a b) false train b xs).body) ∧ Has v15 (v4.heap.size) 30 (pdA (datP (deriveF base a b) false train b xs) A2 c2) ∧ Sl v15 1 A4 q.body.length c4 (u8s q.body) ∧ Has v15 (v6.heap.size) 30 (pdA (q) A4 c4) ∧ Has v15 (v9.heap.size) 26 (prA (t2)) ∧ Has v15 (v11.heap.size) 26 (prA (askX base train a)) ∧ Has v15 (v11.heap.size + 1) 30 (pdA (askP train a) none 0) ∧ Has v15 (v13.heap.size) 26 (prA (agaY base train a b a b)) ∧ Has v15 (v13.heap.size + 1) 30 (pdA (ansP base train a b) none 0) ∧ Below w.heap.size w v15) := Lib.hid ⟨s0.under hbn s0.lt, s1.under hbn s1.lt, s2.under hbn s2.lt, s3.under hbn, s4.under hbn s4.lt, s5.under hbn, s6.under hbn s6.lt, s7.under hbn s7.lt, s8.under hbn s8.lt, s9.under hbn s9.lt, s10.under hbn s10.lt, s11.under hbn s11.lt, s12.trans (hbn.mono s12.size)⟩
    clear s0 s1 s2 s3 s4 s5 s6 s7 s8 s9 s10 s11 s12
    clear HK HB16 HL0 HV hb1
    clear hbn
    obtain ⟨s0, s1, s2, s3, s4, s5, s6, s7, s8, s9, s10, s11, s12⟩ := HB17.out
    have HB18 : Hid (Has v15 (w.heap.size) 24 #[.int .u32 (base.a : Nat), .int .u32 (base.b : Nat), .int .u32 (base.c : Nat), .int .u32 (base.d : Nat)] ∧ Has v15 (v2.heap.size) 26 (prA (upX base train a b)) ∧ Has v15 (v2.heap.size + 1) 26 (prA (upY base train a b)) ∧ Sl v15 1 A2 (datP (deriveF base a b) false train b xs).body.length c2 (u8s (datP (deriveF base a b) false train b xs).body) ∧ Has v15 (v4.heap.size) 30 (pdA (datP (deriveF base a b) false train b xs) A2 c2) ∧ Sl v15 1 A4 q.body.length c4 (u8s q.body) ∧ Has v15 (v6.heap.size) 30 (pdA (q) A4 c4) ∧ Has v15 (v9.heap.size) 26 (prA (t2)) ∧ Has v15 (v11.heap.size) 26 (prA (askX base train a)) ∧ Has v15 (v11.heap.size + 1) 30 (pdA (askP train a) none 0) ∧ Has v15 (v13.heap.size) 26 (prA (agaY base train a b a b)) ∧ Has v15 (v13.heap.size + 1) 30 (pdA (ansP base train a b) none 0) ∧ Sl v15 1 A7 p2.body.length c7 (u8s p2.body) ∧ Below w.heap.size w v15) := Lib.hid ⟨s0, s1, s2, s3, s4, s5, s6, s7, s8, s9, s10, s11, hs7.out, s12⟩
    clear s0 s1 s2 s3 s4 s5 s6 s7 s8 s9 s10 s11 s12
    clear HB17
    clear hs7
    obtain ⟨s0, s1, s2, s3, s4, s5, s6, s7, s8, s9, s10, s11, s12, s13⟩ := HB18.out
    have lt15_18 : v13.heap.size + 1 < v15.heap.size := s11.lt
    have le15_18 : w.heap.size ≤ v15.heap.size := s13.size
    have HS0 : Hid (Has (v15.alloc (.cells #[.int .i64 0, .int .i64 0, .int .i64 0, .int .u32 0, .int .u32 0, .slice none 0 0, .int .u64 0] 30)) (v15.heap.size) 30 #[.int .i64 0, .int .i64 0, .int .i64 0, .int .u32 0, .int .u32 0, .slice none 0 0, .int .u64 0]) := Lib.hid (Has.made v15 30 #[.int .i64 0, .int .i64 0, .int .i64 0, .int .u32 0, .int .u32 0, .slice none 0 0, .int .u64 0])
    obtain ⟨v16, hv16⟩ : ∃ v16, (v15.alloc (.cells #[.int .i64 0, .int .i64 0, .int .i64 0, .int .u32 0, .int .u32 0, .slice none 0 0, .int .u64 0] 30)).setRow (v15.heap.size) (pdA (p2) A7 c7) = v16 := ⟨_, rfl⟩
    have hbw : Below v15.heap.size v15 v16 := by rw [← hv16]; exact (below_row (g := v15.heap.size) (Below.alloc (Below.refl v15.heap.size v15) (Nat.le_refl _) (.cells #[.int .i64 0, .int .i64 0, .int .i64 0, .int .u32 0, .int .u32 0, .slice none 0 0, .int .u64 0] 30)) (by omega) (pdA (p2) A7 c7))
    have HB19 : Hid (Has v16 (w.heap.size) 24 #[.int .u32 (base.a : Nat), .int .u32 (base.b : Nat), .int .u32 (base.c : Nat), .int .u32 (base.d : Nat)] ∧ Has v16 (v2.heap.size) 26 (prA (upX base train a b)) ∧ Has v16 (v2.heap.size + 1) 26 (prA (upY base train a b)) ∧ Sl v16 1 A2 (datP (deriveF base a b) false train b xs).body.length c2 (u8s (datP (deriveF base a b) false train b xs).body) ∧ Has v16 (v4.heap.size) 30 (pdA (datP (deriveF base a b) false train b xs) A2 c2) ∧ Sl v16 1 A4 q.body.length c4 (u8s q.body) ∧ Has v16 (v6.heap.size) 30 (pdA (q) A4 c4) ∧ Has v16 (v9.heap.size) 26 (prA (t2)) ∧ Has v16 (v11.heap.size) 26 (prA (askX base train a)) ∧ Has v16 (v11.heap.size + 1) 30 (pdA (askP train a) none 0) ∧ Has v16 (v13.heap.size) 26 (prA (agaY base train a b a b)) ∧ Has v16 (v13.heap.size + 1) 30 (pdA (ansP base train a b) none 0) ∧ Sl v16 1 A7 p2.body.length c7 (u8s p2.body) ∧ Has v16 (v15.heap.size) 30 (pdA (p2) A7 c7) ∧ Below w.heap.size w v16) := Lib.hid ⟨s0.under hbw s0.lt, s1.under hbw s1.lt, s2.under hbw s2.lt, s3.under hbw, s4.under hbw s4.lt, s5.under hbw, s6.under hbw s6.lt, s7.under hbw s7.lt, s8.under hbw s8.lt, s9.under hbw s9.lt, s10.under hbw s10.lt, s11.under hbw s11.lt, s12.under hbw, (by rw [← hv16]; exact (has_setRow7 (Has.made v15 30 #[.int .i64 0, .int .i64 0, .int .i64 0, .int .u32 0, .int .u32 0, .slice none 0 0, .int .u64 0]) (pdA (p2) A7 c7))), s13.trans (hbw.mono s13.size)⟩
    clear hbw
    have HWv16 := Lib.hid hv16
    clear s0 s1 s2 s3 s4 s5 s6 s7 s8 s9 s10 s11 s12 s13
    clear hv16 HB18
    go_upto_region 19 with (first | (with_reducible refine wpList_store_rowTo (o := ⟨none, _, _, _, _, _⟩) rfl 30 _ _ rfl rfl (v15.heap.size) (pdA (p2) A7 c7) rfl rfl 30 _ (HS0.out).raw (by kernel_rfl) (by kernel_rfl) (by kernel_rfl) ?_))
    rw [HWv16.out]
    clear HWv16 HS0
    cases is2
    · clear hq2 HC
      obtain ⟨s0, s1, s2, s3, s4, s5, s6, s7, s8, s9, s10, s11, s12, s13, s14⟩ := HB19.out
      have HBF := Lib.hid s14
      clear s0 s1 s2 s3 s4 s5 s6 s7 s8 s9 s10 s11 s12 s13 s14
      clear HB19 HSL HX8
      go_wp2
      go_ret
      exact ⟨rfl, HBF.out⟩
    · obtain ⟨hqo, hqn, hqr⟩ := hq2 rfl
      have hC := HC.out p2 A7 c7 hqo hqn
      have hg3 := con_bad (p := askX base train a) hqr
      generalize shConfirm (askX base train a) p2 = r3 at hC hg3
      obtain ⟨k1, k2, g3⟩ := r3
      unfold ShPost3 prV pdV at hC
      have HCC := Lib.hid hC
      have xg : (g3 != 0) = true := by simpa using hg3
      clear hq2 hqo hqn hqr hC hg3 HC
      obtain ⟨s0, s1, s2, s3, s4, s5, s6, s7, s8, s9, s10, s11, s12, s13, s14⟩ := HB19.out
      have HL0 := Lib.hid s8
      have HL1 := Lib.hid s13
      have HK := Lib.hid (HCC.out v16 s12)
      clear s0 s1 s2 s3 s4 s5 s6 s7 s8 s9 s10 s11 s12 s13 s14
      go_wp2_with (first | (with_reducible refine wpList_load_row (o := ⟨some 140, _, _, _, _, _⟩) rfl 26 _ rfl (v11.heap.size) rfl 26 (prA (askX base train a)) (0, 0) _ (HL0.out).raw Try.underlying26 rfl (by kernel_rfl) ?_) | (with_reducible refine wpList_load_row (o := ⟨some 141, _, _, _, _, _⟩) rfl 30 _ rfl (v15.heap.size) rfl 30 (pdA (p2) A7 c7) (0, 0) _ (HL1.out).raw Try.underlying30 rfl (by kernel_rfl) ?_))
      refine HK.out.mono ?_
      rintro e v17 ⟨rfl, hb1⟩
      obtain ⟨s0, s1, s2, s3, s4, s5, s6, s7, s8, s9, s10, s11, s12, s13, s14⟩ := HB19.out
      have hbn : Below v16.heap.size v16 v17 := hb1
      have HB20 : Hid (Has v17 (w.heap.size) 24 #[.int .u32 (base.a : Nat), .int .u32 (base.b : Nat), .int .u32 (base.c : Nat), .int .u32 (base.d : Nat)] ∧ Has v17 (v2.heap.size) 26 (prA (upX base train a b)) ∧ Has v17 (v2.heap.size + 1) 26 (prA (upY base train a b)) ∧ Sl v17 1 A2 (datP (deriveF base a b) false train b xs).body.length c2 (u8s (datP (deriveF base a b) false train b xs).body) ∧ Has v17 (v4.heap.size) 30 (pdA (datP (deriveF base a b) false train b xs) A2 c2) ∧ Sl v17 1 A4 q.body.length c4 (u8s q.body) ∧ Has v17 (v6.heap.size) 30 (pdA (q) A4 c4) ∧ Has v17 (v9.heap.size) 26 (prA (t2)) ∧ Has v17 (v11.heap.size) 26 (prA (askX base train a)) ∧ Has v17 (v11.heap.size + 1) 30 (pdA (askP train a) none 0) ∧ Has v17 (v13.heap.size) 26 (prA (agaY base train a b a b)) ∧ Has v17 (v13.heap.size + 1) 30 (pdA (ansP base train a b) none 0) ∧ Sl v17 1 A7 p2.body.length c7 (u8s p2.body) ∧ Has v17 (v15.heap.size) 30 (pdA (p2) A7 c7) ∧ Below w.heap.size w v17) := Lib.hid ⟨s0.under hbn s0.lt, s1.under hbn s1.lt, s2.under hbn s2.lt, s3.under hbn, s4.under hbn s4.lt, s5.under hbn, s6.under hbn s6.lt, s7.under hbn s7.lt, s8.under hbn s8.lt, s9.under hbn s9.lt, s10.under hbn s10.lt, s11.under hbn s11.lt, s12.under hbn, s13.under hbn s13.lt, s14.trans (hbn.mono s14.size)⟩
      clear s0 s1 s2 s3 s4 s5 s6 s7 s8 s9 s10 s11 s12 s13 s14
      clear HK HB19 HL0 HL1 HCC hb1
      clear hbn
      obtain ⟨s0, s1, s2, s3, s4, s5, s6, s7, s8, s9, s10, s11, s12, s13, s14⟩ := HB20.out
      have lt17_20 : v15.heap.size < v17.heap.size := s13.lt
      have le17_20 : w.heap.size ≤ v17.heap.size := s14.size
      have HS0 : Hid (Has ((v17.alloc (.cells #[.int .i64 0, .int .i64 0, .int .u32 0, .int .u32 0, .int .u32 0, .int .u32 0, .int .i64 0, .int .u32 0, .int .u32 0, .int .u32 0, .int .u32 0, .int .u32 0, .int .u32 0, .bool false, .int .u32 0, .int .u32 0] 26)).alloc (.cells #[.int .i64 0, .int .i64 0, .int .i64 0, .int .u32 0, .int .u32 0, .slice none 0 0, .int .u64 0] 30)) (v17.heap.size) 26 #[.int .i64 0, .int .i64 0, .int .u32 0, .int .u32 0, .int .u32 0, .int .u32 0, .int .i64 0, .int .u32 0, .int .u32 0, .int .u32 0, .int .u32 0, .int .u32 0, .int .u32 0, .bool false, .int .u32 0, .int .u32 0]) := Lib.hid (Has.beside (Has.made v17 26 #[.int .i64 0, .int .i64 0, .int .u32 0, .int .u32 0, .int .u32 0, .int .u32 0, .int .i64 0, .int .u32 0, .int .u32 0, .int .u32 0, .int .u32 0, .int .u32 0, .int .u32 0, .bool false, .int .u32 0, .int .u32 0]) (.cells #[.int .i64 0, .int .i64 0, .int .i64 0, .int .u32 0, .int .u32 0, .slice none 0 0, .int .u64 0] 30))
      have HS1 : Hid (Has (((v17.alloc (.cells #[.int .i64 0, .int .i64 0, .int .u32 0, .int .u32 0, .int .u32 0, .int .u32 0, .int .i64 0, .int .u32 0, .int .u32 0, .int .u32 0, .int .u32 0, .int .u32 0, .int .u32 0, .bool false, .int .u32 0, .int .u32 0] 26)).alloc (.cells #[.int .i64 0, .int .i64 0, .int .i64 0, .int .u32 0, .int .u32 0, .slice none 0 0, .int .u64 0] 30)).setRow (v17.heap.size) (prA (k1))) (v17.heap.size + 1) 30 #[.int .i64 0, .int .i64 0, .int .i64 0, .int .u32 0, .int .u32 0, .slice none 0 0, .int .u64 0]) := Lib.hid (has_setRow_other7 (show Has ((v17.alloc (.cells #[.int .i64 0, .int .i64 0, .int .u32 0, .int .u32 0, .int .u32 0, .int .u32 0, .int .i64 0, .int .u32 0, .int .u32 0, .int .u32 0, .int .u32 0, .int .u32 0, .int .u32 0, .bool false, .int .u32 0, .int .u32 0] 26)).alloc (.cells #[.int .i64 0, .int .i64 0, .int .i64 0, .int .u32 0, .int .u32 0, .slice none 0 0, .int .u64 0] 30)) (v17.heap.size + 1) 30 #[.int .i64 0, .int .i64 0, .int .i64 0, .int .u32 0, .int .u32 0, .slice none 0 0, .int .u64 0] from has_at (by simp)) (by omega) (prA (k1)))
      obtain ⟨v18, hv18⟩ : ∃ v18, (((v17.alloc (.cells #[.int .i64 0, .int .i64 0, .int .u32 0, .int .u32 0, .int .u32 0, .int .u32 0, .int .i64 0, .int .u32 0, .int .u32 0, .int .u32 0, .int .u32 0, .int .u32 0, .int .u32 0, .bool false, .int .u32 0, .int .u32 0] 26)).alloc (.cells #[.int .i64 0, .int .i64 0, .int .i64 0, .int .u32 0, .int .u32 0, .slice none 0 0, .int .u64 0] 30)).setRow (v17.heap.size) (prA (k1))).setRow (v17.heap.size + 1) (pdA (k2) none 0) = v18 := ⟨_, rfl⟩
      have hbw : Below v17.heap.size v17 v18 := by rw [← hv18]; exact (below_row (g := v17.heap.size + 1) (below_row (g := v17.heap.size) (Below.alloc (Below.alloc (Below.refl v17.heap.size v17) (Nat.le_refl _) (.cells #[.int .i64 0, .int .i64 0, .int .u32 0, .int .u32 0, .int .u32 0, .int .u32 0, .int .i64 0, .int .u32 0, .int .u32 0, .int .u32 0, .int .u32 0, .int .u32 0, .int .u32 0, .bool false, .int .u32 0, .int .u32 0] 26)) (by simp) (.cells #[.int .i64 0, .int .i64 0, .int .i64 0, .int .u32 0, .int .u32 0, .slice none 0 0, .int .u64 0] 30)) (by omega) (prA (k1))) (by omega) (pdA (k2) none 0))
      have HB21 : Hid (Has v18 (w.heap.size) 24 #[.int .u32 (base.a : Nat), .int .u32 (base.b : Nat), .int .u32 (base.c : Nat), .int .u32 (base.d : Nat)] ∧ Has v18 (v2.heap.size) 26 (prA (upX base train a b)) ∧ Has v18 (v2.heap.size + 1) 26 (prA (upY base train a b)) ∧ Sl v18 1 A2 (datP (deriveF base a b) false train b xs).body.length c2 (u8s (datP (deriveF base a b) false train b xs).body) ∧ Has v18 (v4.heap.size) 30 (pdA (datP (deriveF base a b) false train b xs) A2 c2) ∧ Sl v18 1 A4 q.body.length c4 (u8s q.body) ∧ Has v18 (v6.heap.size) 30 (pdA (q) A4 c4) ∧ Has v18 (v9.heap.size) 26 (prA (t2)) ∧ Has v18 (v11.heap.size) 26 (prA (askX base train a)) ∧ Has v18 (v11.heap.size + 1) 30 (pdA (askP train a) none 0) ∧ Has v18 (v13.heap.size) 26 (prA (agaY base train a b a b)) ∧ Has v18 (v13.heap.size + 1) 30 (pdA (ansP base train a b) none 0) ∧ Sl v18 1 A7 p2.body.length c7 (u8s p2.body) ∧ Has v18 (v15.heap.size) 30 (pdA (p2) A7 c7) ∧ Has v18 (v17.heap.size) 26 (prA (k1)) ∧ Has v18 (v17.heap.size + 1) 30 (pdA (k2) none 0) ∧ Below w.heap.size w v18) := Lib.hid ⟨s0.under hbw s0.lt, s1.under hbw s1.lt, s2.under hbw s2.lt, s3.under hbw, s4.under hbw s4.lt, s5.under hbw, s6.under hbw s6.lt, s7.under hbw s7.lt, s8.under hbw s8.lt, s9.under hbw s9.lt, s10.under hbw s10.lt, s11.under hbw s11.lt, s12.under hbw, s13.under hbw s13.lt, (by rw [← hv18]; exact (has_setRow_other7 (has_setRow7 (Has.beside (Has.made v17 26 #[.int .i64 0, .int .i64 0, .int .u32 0, .int .u32 0, .int .u32 0, .int .u32 0, .int .i64 0, .int .u32 0, .int .u32 0, .int .u32 0, .int .u32 0, .int .u32 0, .int .u32 0, .bool false, .int .u32 0, .int .u32 0]) (.cells #[.int .i64 0, .int .i64 0, .int .i64 0, .int .u32 0, .int .u32 0, .slice none 0 0, .int .u64 0] 30)) (prA (k1))) (by omega) (pdA (k2) none 0))), (by rw [← hv18]; exact (has_setRow7 (has_setRow_other7 (show Has ((v17.alloc (.cells #[.int .i64 0, .int .i64 0, .int .u32 0, .int .u32 0, .int .u32 0, .int .u32 0, .int .i64 0, .int .u32 0, .int .u32 0, .int .u32 0, .int .u32 0, .int .u32 0, .int .u32 0, .bool false, .int .u32 0, .int .u32 0] 26)).alloc (.cells #[.int .i64 0, .int .i64 0, .int .i64 0, .int .u32 0, .int .u32 0, .slice none 0 0, .int .u64 0] 30)) (v17.heap.size + 1) 30 #[.int .i64 0, .int .i64 0, .int .i64 0, .int .u32 0, .int .u32 0, .slice none 0 0, .int .u64 0] from has_at (by simp)) (by omega) (prA (k1))) (pdA (k2) none 0))), s14.trans (hbw.mono s14.size)⟩
      clear hbw
      have HWv18 := Lib.hid hv18
      clear s0 s1 s2 s3 s4 s5 s6 s7 s8 s9 s10 s11 s12 s13 s14
      clear hv18 HB20
      go_upto_region 21 with (first | (with_reducible refine wpList_store_rowTo (o := ⟨none, _, _, _, _, _⟩) rfl 26 _ _ rfl rfl (v17.heap.size) (prA (k1)) rfl rfl 26 _ (HS0.out).raw (by kernel_rfl) (by kernel_rfl) (by kernel_rfl) ?_) | (with_reducible refine wpList_store_rowTo (o := ⟨none, _, _, _, _, _⟩) rfl 30 _ _ rfl rfl (v17.heap.size + 1) (pdA (k2) none 0) rfl rfl 30 _ (HS1.out).raw (by kernel_rfl) (by kernel_rfl) (by kernel_rfl) ?_))
      rw [HWv18.out]
      clear HWv18 HS0 HS1
      obtain ⟨s0, s1, s2, s3, s4, s5, s6, s7, s8, s9, s10, s11, s12, s13, s14, s15, s16⟩ := HB21.out
      have HBF := Lib.hid s16
      clear s0 s1 s2 s3 s4 s5 s6 s7 s8 s9 s10 s11 s12 s13 s14 s15 s16
      clear HB21 HSL HX8
      go_wp2
      go_ret
      exact ⟨by simp, HBF.out⟩
end Go.Proofs.Ytekcnmimfhiblaa
