/-
  linesidelaw10.ShakeOther, walked.
-/
import Derived.Test.YtekcnmimfhiblaaLawShakePasses
import Derived.Test.YtekcnmimfhiblaaShStray
import Derived.Deep.DeepCutAuto
namespace Go.Proofs.Ytekcnmimfhiblaa
open Go.RowKit
open Go.Great

set_option maxRecDepth 100000 in
set_option maxHeartbeats 4000000 in
theorem shakeOther_at (base other : Key4) (train : Int) (a b c' d' : Nat) (A : Option Addr) (n c : Nat) (xs : List Nat) (w : World) (hbo : base.ok) (hoo : other.ok) (hta : -9223372036854775808 ≤ train) (htb : train ≤ 9223372036854775807) (ha : a < 4294967296) (hb : b < 4294967296) (hc' : c' < 4294967296) (hd' : d' < 4294967296) (hin : InBody w A n c xs) :
    Calls Try.prog 6 #[keyV base, keyV other, .int .i64 train, .int .u32 (a : Nat), .int .u32 (b : Nat), .int .u32 (c' : Nat), .int .u32 (d' : Nat), .slice A n c] w fun e w' => e = .returned (.bool true) ∧ Below w.heap.size w w' := by
  obtain ⟨rfl, hcap, hlm, hs, hx8⟩ := hin
  unfold maxLen at hlm
  obtain ⟨wa, hwa⟩ : ∃ wa, (w.alloc (.cells #[.int .u32 (base.a : Nat), .int .u32 (base.b : Nat), .int .u32 (base.c : Nat), .int .u32 (base.d : Nat)] 24)).alloc (.cells #[.int .u32 (other.a : Nat), .int .u32 (other.b : Nat), .int .u32 (other.c : Nat), .int .u32 (other.d : Nat)] 24) = wa := ⟨_, rfl⟩
  have hbwa : Below w.heap.size w wa := by rw [← hwa]; exact ((Below.refl _ _).alloc (Nat.le_refl _) _).alloc (by simp) _
  have h0 : Has wa (w.heap.size) 24 #[.int .u32 (base.a : Nat), .int .u32 (base.b : Nat), .int .u32 (base.c : Nat), .int .u32 (base.d : Nat)] := by rw [← hwa]; exact ((Has.made _ _ _).beside _)
  have h1 : Has wa (w.heap.size + 1) 24 #[.int .u32 (other.a : Nat), .int .u32 (other.b : Nat), .int .u32 (other.c : Nat), .int .u32 (other.d : Nat)] := by rw [← hwa]; exact (has_at (by simp))
  have HWA := Lib.hid hwa; have HBWA := Lib.hid hbwa
  have HSL := Lib.hid (fun W (hW : Below w.heap.size w W) => Sl.under hs hW)
  have HX8 := Lib.hid hx8
  have HB0 : Hid (Has wa (w.heap.size) 24 #[.int .u32 (base.a : Nat), .int .u32 (base.b : Nat), .int .u32 (base.c : Nat), .int .u32 (base.d : Nat)] ∧ Has wa (w.heap.size + 1) 24 #[.int .u32 (other.a : Nat), .int .u32 (other.b : Nat), .int .u32 (other.c : Nat), .int .u32 (other.d : Nat)] ∧ Below w.heap.size w wa) := Lib.hid ⟨h0, h1, hbwa⟩
  have HAW := Lib.hid (awake10_any wa)
  clear hwa hbwa h0 h1 hs hx8 HBWA
  unfold keyV keyA
  go_enter Try.func6, Try.ntmps6
  go_upto_region 1 with fail
  rw [HWA.out]
  clear HWA
  obtain ⟨s0, s1, s2⟩ := HB0.out
  have HK := Lib.hid (HAW.out)
  clear s0 s1 s2
  go_wp2_with fail
  refine HK.out.mono ?_
  rintro e v1 ⟨rfl, hb1⟩
  obtain ⟨s0, s1, s2⟩ := HB0.out
  have hbn : Below wa.heap.size wa v1 := hb1
  have HB1 : Hid (Has v1 (w.heap.size) 24 #[.int .u32 (base.a : Nat), .int .u32 (base.b : Nat), .int .u32 (base.c : Nat), .int .u32 (base.d : Nat)] ∧ Has v1 (w.heap.size + 1) 24 #[.int .u32 (other.a : Nat), .int .u32 (other.b : Nat), .int .u32 (other.c : Nat), .int .u32 (other.d : Nat)] ∧ Below w.heap.size w v1) := Lib.hid ⟨s0.under hbn s0.lt, s1.under hbn s1.lt, s2.trans (hbn.mono s2.size)⟩
  clear s0 s1 s2
  clear HK HB0 HAW hb1
  clear hbn
  by_cases hgo : 1 ≤ xs.length ∧ xs.length ≤ 1023 ∧ 0 ≤ train ∧ train ≤ 16777215
  rotate_left
  · have hno : (xs.length : Int) < 1 ∨ (¬ (xs.length : Int) < 1 ∧ (1023 : Int) < (xs.length : Int)) ∨ (¬ (xs.length : Int) < 1 ∧ ¬ (1023 : Int) < (xs.length : Int) ∧ train < 0) ∨ (¬ (xs.length : Int) < 1 ∧ ¬ (1023 : Int) < (xs.length : Int) ∧ ¬ train < 0 ∧ (16777216 : Int) ≤ train) := by omega
    obtain ⟨s0, s1, s2⟩ := HB1.out
    have HBF := Lib.hid s2
    clear s0 s1 s2 HB1 HSL HX8 hgo
    rcases hno with h1 | ⟨h1, h2⟩ | ⟨h1, h2, h3⟩ | ⟨h1, h2, h3, h4⟩
    all_goals
      go_wp2
      go_ret
      exact ⟨rfl, HBF.out⟩
  obtain ⟨hl1, hl2, ht0, ht1⟩ := hgo
  have x1 : ¬ (xs.length : Int) < 1 := by omega
  have x2 : ¬ (1023 : Int) < (xs.length : Int) := by omega
  have x3 : ¬ train < 0 := by omega
  have x4 : ¬ (16777216 : Int) ≤ train := by omega
  have HAB := Lib.hid (sl_block9 (HSL.out w (Below.refl _ _)) (by rw [u8s_length]; omega))
  have hko := deriveF_ok hoo hc' hd'
  have HBO := Lib.hid (fun W => both_up base hbo train a b ha hb ht0 ht1 W)
  have HBP := Lib.hid (fun W => both_up other hoo train c' d' hc' hd' ht0 ht1 W)
  have hD := fun W hs => osh_data (upE false other train c' d') A c xs (upE_ok hoo false train hc' hd') HX8.out (by omega) W hs
  rw [data_up ht0 ht1 false hl1 hl2] at hD
  have hE := fun W hs => osh_data (upE true other train c' d') A c xs (upE_ok hoo true train hc' hd') HX8.out (by omega) W hs
  rw [data_up ht0 ht1 true hl1 hl2] at hE
  have hT1 := fun A c W hs => osh_take (upE true base train a b) (datP (deriveF other c' d') false train d' xs) A c (upE_ok hbo true train ha hb) (datP_ok hko false train hd' HX8.out) (by rw [datP_body]; omega) W hs
  have hg1 : b ≠ d' → (shTake (upE true base train a b) (datP (deriveF other c' d') false train d' xs)).2 = 110 := fun h => by rw [show shTake (upE true base train a b) (datP (deriveF other c' d') false train d' xs) = ([], 110) from take_stray ht0 ht1 false hl1 hl2 h]
  have hT2 := fun A c W hs => osh_take (upE false base train a b) (datP (deriveF other c' d') true train d' xs) A c (upE_ok hbo false train ha hb) (datP_ok hko true train hd' HX8.out) (by rw [datP_body]; omega) W hs
  have hg2 : b ≠ d' → (shTake (upE false base train a b) (datP (deriveF other c' d') true train d' xs)).2 = 110 := fun h => by rw [show shTake (upE false base train a b) (datP (deriveF other c' d') true train d' xs) = ([], 110) from take_stray ht0 ht1 true hl1 hl2 h]
  generalize shTake (upE true base train a b) (datP (deriveF other c' d') false train d' xs) = r1 at hT1 hg1
  generalize shTake (upE false base train a b) (datP (deriveF other c' d') true train d' xs) = r2 at hT2 hg2
  obtain ⟨t1, g1⟩ := r1
  obtain ⟨t2, g2⟩ := r2
  have hA := fun W => osh_ask (upX base train a b) a (upE_ok hbo false train ha hb) ha W
  rw [ask_again ht0 ht1] at hA
  have hN := fun W => osh_answer (upY other train c' d') (askP train c') none 0 d' (upE_ok hoo true train hc' hd') ⟨hc', show 0 < 4294967296 by decide, fun x hx => (by cases hx), show 0 < 18446744073709551616 by decide⟩ (Nat.zero_le _) hd' W (sl_nil _ _)
  rw [ans_again ht0 ht1] at hN
  have h2o : (ansP other train c' d').ok := seal_ok hoo ⟨hc', hd', fun x hx => (by cases hx), show 0 < 18446744073709551616 by decide⟩
  have h2b : (ansP other train c' d').body = [] := seal_bd _ _
  have hC := fun W => osh_confirm (askX base train a) (ansP other train c' d') none 0 (askX_ok hbo train ha) h2o (by rw [h2b]; exact Nat.zero_le _) W (by rw [h2b]; exact sl_nil _ _)
  have hg3 : a ≠ c' → (shConfirm (askX base train a) (ansP other train c' d')).2.2 = 110 := fun h => by rw [con_stray ht0 ht1 h]
  generalize shConfirm (askX base train a) (ansP other train c' d') = r3 at hC hg3
  obtain ⟨k1, k2, k3⟩ := r3
  have hgo : ((b : Int) != (d' : Int)) = false ∨ (((b : Int) != (d' : Int)) = true ∧ g1 = 110 ∧ g2 = 110) := by
    by_cases h : b = d'
    · exact .inl (by subst h; simp)
    · exact .inr ⟨by simp; omega, hg1 h, hg2 h⟩
  have hgq : ((a : Int) == (c' : Int)) = true ∨ (((a : Int) == (c' : Int)) = false ∧ k3 = 110) := by
    by_cases h : a = c'
    · exact .inl (by subst h; simp)
    · exact .inr ⟨by simp; omega, hg3 h⟩
  unfold ShPostD at hD hE
  unfold ShPost3 at hA hN hC
  unfold ShPostT at hT1 hT2
  have HD := Lib.hid hD; have HE := Lib.hid hE; have HT1 := Lib.hid hT1; have HT2 := Lib.hid hT2; have HA := Lib.hid hA; have HN := Lib.hid hN; have HC := Lib.hid hC
  have HGO := Lib.hid hgo; have HGQ := Lib.hid hgq
  clear hD hE hT1 hT2 hA hN hC hgo hgq hg1 hg2 hg3 h2o h2b hko hbo hoo ha hb hc' hd' ht0 ht1 hta htb HAB
  unfold keyV keyA at HBO HBP
  unfold prV pdV at *
  obtain ⟨s0, s1, s2⟩ := HB1.out
  have HL0 := Lib.hid s0
  have HK := Lib.hid (HBO.out v1)
  clear s0 s1 s2
  go_wp2_with (first | (with_reducible refine wpList_load_row (o := ⟨some 64, _, _, _, _, _⟩) rfl 24 _ rfl (w.heap.size) rfl 24 #[.int .u32 (base.a : Nat), .int .u32 (base.b : Nat), .int .u32 (base.c : Nat), .int .u32 (base.d : Nat)] (0, 0) _ (HL0.out).raw Try.underlying24 rfl (by kernel_rfl) ?_))
  refine HK.out.mono ?_
  rintro e v2 ⟨rfl, hb1⟩
  obtain ⟨s0, s1, s2⟩ := HB1.out
  have hbn : Below v1.heap.size v1 v2 := hb1
  have HB2 : Hid (Has v2 (w.heap.size) 24 #[.int .u32 (base.a : Nat), .int .u32 (base.b : Nat), .int .u32 (base.c : Nat), .int .u32 (base.d : Nat)] ∧ Has v2 (w.heap.size + 1) 24 #[.int .u32 (other.a : Nat), .int .u32 (other.b : Nat), .int .u32 (other.c : Nat), .int .u32 (other.d : Nat)] ∧ Below w.heap.size w v2) := Lib.hid ⟨s0.under hbn s0.lt, s1.under hbn s1.lt, s2.trans (hbn.mono s2.size)⟩
  clear s0 s1 s2
  clear HK HB1 HL0 HBO hb1 x1 x2 x3 x4
  clear hbn
  obtain ⟨s0, s1, s2⟩ := HB2.out
  have lt2_2 : w.heap.size + 1 < v2.heap.size := s1.lt
  have le2_2 : w.heap.size ≤ v2.heap.size := s2.size
  have HS0 : Hid (Has ((v2.alloc (.cells #[.int .i64 0, .int .i64 0, .int .u32 0, .int .u32 0, .int .u32 0, .int .u32 0, .int .i64 0, .int .u32 0, .int .u32 0, .int .u32 0, .int .u32 0, .int .u32 0, .int .u32 0, .bool false, .int .u32 0, .int .u32 0] 26)).alloc (.cells #[.int .i64 0, .int .i64 0, .int .u32 0, .int .u32 0, .int .u32 0, .int .u32 0, .int .i64 0, .int .u32 0, .int .u32 0, .int .u32 0, .int .u32 0, .int .u32 0, .int .u32 0, .bool false, .int .u32 0, .int .u32 0] 26)) (v2.heap.size) 26 #[.int .i64 0, .int .i64 0, .int .u32 0, .int .u32 0, .int .u32 0, .int .u32 0, .int .i64 0, .int .u32 0, .int .u32 0, .int .u32 0, .int .u32 0, .int .u32 0, .int .u32 0, .bool false, .int .u32 0, .int .u32 0]) := Lib.hid (Has.beside (Has.made v2 26 #[.int .i64 0, .int .i64 0, .int .u32 0, .int .u32 0, .int .u32 0, .int .u32 0, .int .i64 0, .int .u32 0, .int .u32 0, .int .u32 0, .int .u32 0, .int .u32 0, .int .u32 0, .bool false, .int .u32 0, .int .u32 0]) (.cells #[.int .i64 0, .int .i64 0, .int .u32 0, .int .u32 0, .int .u32 0, .int .u32 0, .int .i64 0, .int .u32 0, .int .u32 0, .int .u32 0, .int .u32 0, .int .u32 0, .int .u32 0, .bool false, .int .u32 0, .int .u32 0] 26))
  have HS1 : Hid (Has (((v2.alloc (.cells #[.int .i64 0, .int .i64 0, .int .u32 0, .int .u32 0, .int .u32 0, .int .u32 0, .int .i64 0, .int .u32 0, .int .u32 0, .int .u32 0, .int .u32 0, .int .u32 0, .int .u32 0, .bool false, .int .u32 0, .int .u32 0] 26)).alloc (.cells #[.int .i64 0, .int .i64 0, .int .u32 0, .int .u32 0, .int .u32 0, .int .u32 0, .int .i64 0, .int .u32 0, .int .u32 0, .int .u32 0, .int .u32 0, .int .u32 0, .int .u32 0, .bool false, .int .u32 0, .int .u32 0] 26)).setRow (v2.heap.size) (prA (upX base train a b))) (v2.heap.size + 1) 26 #[.int .i64 0, .int .i64 0, .int .u32 0, .int .u32 0, .int .u32 0, .int .u32 0, .int .i64 0, .int .u32 0, .int .u32 0, .int .u32 0, .int .u32 0, .int .u32 0, .int .u32 0, .bool false, .int .u32 0, .int .u32 0]) := Lib.hid (has_setRow_other7 (show Has ((v2.alloc (.cells #[.int .i64 0, .int .i64 0, .int .u32 0, .int .u32 0, .int .u32 0, .int .u32 0, .int .i64 0, .int .u32 0, .int .u32 0, .int .u32 0, .int .u32 0, .int .u32 0, .int .u32 0, .bool false, .int .u32 0, .int .u32 0] 26)).alloc (.cells #[.int .i64 0, .int .i64 0, .int .u32 0, .int .u32 0, .int .u32 0, .int .u32 0, .int .i64 0, .int .u32 0, .int .u32 0, .int .u32 0, .int .u32 0, .int .u32 0, .int .u32 0, .bool false, .int .u32 0, .int .u32 0] 26)) (v2.heap.size + 1) 26 #[.int .i64 0, .int .i64 0, .int .u32 0, .int .u32 0, .int .u32 0, .int .u32 0, .int .i64 0, .int .u32 0, .int .u32 0, .int .u32 0, .int .u32 0, .int .u32 0, .int .u32 0, .bool false, .int .u32 0, .int .u32 0] from has_at (by simp)) (by omega) (prA (upX base train a b)))
  obtain ⟨v3, hv3⟩ : ∃ v3, (((v2.alloc (.cells #[.int .i64 0, .int .i64 0, .int .u32 0, .int .u32 0, .int .u32 0, .int .u32 0, .int .i64 0, .int .u32 0, .int .u32 0, .int .u32 0, .int .u32 0, .int .u32 0, .int .u32 0, .bool false, .int .u32 0, .int .u32 0] 26)).alloc (.cells #[.int .i64 0, .int .i64 0, .int .u32 0, .int .u32 0, .int .u32 0, .int .u32 0, .int .i64 0, .int .u32 0, .int .u32 0, .int .u32 0, .int .u32 0, .int .u32 0, .int .u32 0, .bool false, .int .u32 0, .int .u32 0] 26)).setRow (v2.heap.size) (prA (upX base train a b))).setRow (v2.heap.size + 1) (prA (upY base train a b)) = v3 := ⟨_, rfl⟩
  have hbw : Below v2.heap.size v2 v3 := by rw [← hv3]; exact (below_row (g := v2.heap.size + 1) (below_row (g := v2.heap.size) (Below.alloc (Below.alloc (Below.refl v2.heap.size v2) (Nat.le_refl _) (.cells #[.int .i64 0, .int .i64 0, .int .u32 0, .int .u32 0, .int .u32 0, .int .u32 0, .int .i64 0, .int .u32 0, .int .u32 0, .int .u32 0, .int .u32 0, .int .u32 0, .int .u32 0, .bool false, .int .u32 0, .int .u32 0] 26)) (by simp) (.cells #[.int .i64 0, .int .i64 0, .int .u32 0, .int .u32 0, .int .u32 0, .int .u32 0, .int .i64 0, .int .u32 0, .int .u32 0, .int .u32 0, .int .u32 0, .int .u32 0, .int .u32 0, .bool false, .int .u32 0, .int .u32 0] 26)) (by omega) (prA (upX base train a b))) (by omega) (prA (upY base train a b)))
  have HB3 : Hid (Has v3 (w.heap.size) 24 #[.int .u32 (base.a : Nat), .int .u32 (base.b : Nat), .int .u32 (base.c : Nat), .int .u32 (base.d : Nat)] ∧ Has v3 (w.heap.size + 1) 24 #[.int .u32 (other.a : Nat), .int .u32 (other.b : Nat), .int .u32 (other.c : Nat), .int .u32 (other.d : Nat)] ∧ Has v3 (v2.heap.size) 26 (prA (upX base train a b)) ∧ Has v3 (v2.heap.size + 1) 26 (prA (upY base train a b)) ∧ Below w.heap.size w v3) := Lib.hid ⟨s0.under hbw s0.lt, s1.under hbw s1.lt, (by rw [← hv3]; exact (has_setRow_other7 (has_setRow7 (Has.beside (Has.made v2 26 #[.int .i64 0, .int .i64 0, .int .u32 0, .int .u32 0, .int .u32 0, .int .u32 0, .int .i64 0, .int .u32 0, .int .u32 0, .int .u32 0, .int .u32 0, .int .u32 0, .int .u32 0, .bool false, .int .u32 0, .int .u32 0]) (.cells #[.int .i64 0, .int .i64 0, .int .u32 0, .int .u32 0, .int .u32 0, .int .u32 0, .int .i64 0, .int .u32 0, .int .u32 0, .int .u32 0, .int .u32 0, .int .u32 0, .int .u32 0, .bool false, .int .u32 0, .int .u32 0] 26)) (prA (upX base train a b))) (by omega) (prA (upY base train a b)))), (by rw [← hv3]; exact (has_setRow7 (has_setRow_other7 (show Has ((v2.alloc (.cells #[.int .i64 0, .int .i64 0, .int .u32 0, .int .u32 0, .int .u32 0, .int .u32 0, .int .i64 0, .int .u32 0, .int .u32 0, .int .u32 0, .int .u32 0, .int .u32 0, .int .u32 0, .bool false, .int .u32 0, .int .u32 0] 26)).alloc (.cells #[.int .i64 0, .int .i64 0, .int .u32 0, .int .u32 0, .int .u32 0, .int .u32 0, .int .i64 0, .int .u32 0, .int .u32 0, .int .u32 0, .int .u32 0, .int .u32 0, .int .u32 0, .bool false, .int .u32 0, .int .u32 0] 26)) (v2.heap.size + 1) 26 #[.int .i64 0, .int .i64 0, .int .u32 0, .int .u32 0, .int .u32 0, .int .u32 0, .int .i64 0, .int .u32 0, .int .u32 0, .int .u32 0, .int .u32 0, .int .u32 0, .int .u32 0, .bool false, .int .u32 0, .int .u32 0] from has_at (by simp)) (by omega) (prA (upX base train a b))) (prA (upY base train a b)))), s2.trans (hbw.mono s2.size)⟩
  clear hbw
  have HWv3 := Lib.hid hv3
  clear s0 s1 s2
  clear hv3 HB2
  go_upto_region 5 with (first | (with_reducible refine wpList_store_rowTo (o := ⟨none, _, _, _, _, _⟩) rfl 26 _ _ rfl rfl (v2.heap.size) (prA (upX base train a b)) rfl rfl 26 _ (HS0.out).raw (by kernel_rfl) (by kernel_rfl) (by kernel_rfl) ?_) | (with_reducible refine wpList_store_rowTo (o := ⟨none, _, _, _, _, _⟩) rfl 26 _ _ rfl rfl (v2.heap.size + 1) (prA (upY base train a b)) rfl rfl 26 _ (HS1.out).raw (by kernel_rfl) (by kernel_rfl) (by kernel_rfl) ?_))
  rw [HWv3.out]
  clear HWv3 HS0 HS1
  obtain ⟨s0, s1, s2, s3, s4⟩ := HB3.out
  have HL0 := Lib.hid s1
  have HK := Lib.hid (HBP.out v3)
  clear s0 s1 s2 s3 s4
  go_wp2_with (first | (with_reducible refine wpList_load_row (o := ⟨some 73, _, _, _, _, _⟩) rfl 24 _ rfl (w.heap.size + 1) rfl 24 #[.int .u32 (other.a : Nat), .int .u32 (other.b : Nat), .int .u32 (other.c : Nat), .int .u32 (other.d : Nat)] (0, 0) _ (HL0.out).raw Try.underlying24 rfl (by kernel_rfl) ?_))
  refine HK.out.mono ?_
  rintro e v4 ⟨rfl, hb1⟩
  obtain ⟨s0, s1, s2, s3, s4⟩ := HB3.out
  have hbn : Below v3.heap.size v3 v4 := hb1
  have HB4 : Hid (Has v4 (w.heap.size) 24 #[.int .u32 (base.a : Nat), .int .u32 (base.b : Nat), .int .u32 (base.c : Nat), .int .u32 (base.d : Nat)] ∧ Has v4 (w.heap.size + 1) 24 #[.int .u32 (other.a : Nat), .int .u32 (other.b : Nat), .int .u32 (other.c : Nat), .int .u32 (other.d : Nat)] ∧ Has v4 (v2.heap.size) 26 (prA (upX base train a b)) ∧ Has v4 (v2.heap.size + 1) 26 (prA (upY base train a b)) ∧ Below w.heap.size w v4) := Lib.hid ⟨s0.under hbn s0.lt, s1.under hbn s1.lt, s2.under hbn s2.lt, s3.under hbn s3.lt, s4.trans (hbn.mono s4.size)⟩
  clear s0 s1 s2 s3 s4
  clear HK HB3 HL0 HBP hb1
  clear hbn
  obtain ⟨s0, s1, s2, s3, s4⟩ := HB4.out
  have lt4_4 : v2.heap.size + 1 < v4.heap.size := s3.lt
  have le4_4 : w.heap.size ≤ v4.heap.size := s4.size
  have HS0 : Hid (Has ((v4.alloc (.cells #[.int .i64 0, .int .i64 0, .int .u32 0, .int .u32 0, .int .u32 0, .int .u32 0, .int .i64 0, .int .u32 0, .int .u32 0, .int .u32 0, .int .u32 0, .int .u32 0, .int .u32 0, .bool false, .int .u32 0, .int .u32 0] 26)).alloc (.cells #[.int .i64 0, .int .i64 0, .int .u32 0, .int .u32 0, .int .u32 0, .int .u32 0, .int .i64 0, .int .u32 0, .int .u32 0, .int .u32 0, .int .u32 0, .int .u32 0, .int .u32 0, .bool false, .int .u32 0, .int .u32 0] 26)) (v4.heap.size) 26 #[.int .i64 0, .int .i64 0, .int .u32 0, .int .u32 0, .int .u32 0, .int .u32 0, .int .i64 0, .int .u32 0, .int .u32 0, .int .u32 0, .int .u32 0, .int .u32 0, .int .u32 0, .bool false, .int .u32 0, .int .u32 0]) := Lib.hid (Has.beside (Has.made v4 26 #[.int .i64 0, .int .i64 0, .int .u32 0, .int .u32 0, .int .u32 0, .int .u32 0, .int .i64 0, .int .u32 0, .int .u32 0, .int .u32 0, .int .u32 0, .int .u32 0, .int .u32 0, .bool false, .int .u32 0, .int .u32 0]) (.cells #[.int .i64 0, .int .i64 0, .int .u32 0, .int .u32 0, .int .u32 0, .int .u32 0, .int .i64 0, .int .u32 0, .int .u32 0, .int .u32 0, .int .u32 0, .int .u32 0, .int .u32 0, .bool false, .int .u32 0, .int .u32 0] 26))
  have HS1 : Hid (Has (((v4.alloc (.cells #[.int .i64 0, .int .i64 0, .int .u32 0, .int .u32 0, .int .u32 0, .int .u32 0, .int .i64 0, .int .u32 0, .int .u32 0, .int .u32 0, .int .u32 0, .int .u32 0, .int .u32 0, .bool false, .int .u32 0, .int .u32 0] 26)).alloc (.cells #[.int .i64 0, .int .i64 0, .int .u32 0, .int .u32 0, .int .u32 0, .int .u32 0, .int .i64 0, .int .u32 0, .int .u32 0, .int .u32 0, .int .u32 0, .int .u32 0, .int .u32 0, .bool false, .int .u32 0, .int .u32 0] 26)).setRow (v4.heap.size) (prA (upX other train c' d'))) (v4.heap.size + 1) 26 #[.int .i64 0, .int .i64 0, .int .u32 0, .int .u32 0, .int .u32 0, .int .u32 0, .int .i64 0, .int .u32 0, .int .u32 0, .int .u32 0, .int .u32 0, .int .u32 0, .int .u32 0, .bool false, .int .u32 0, .int .u32 0]) := Lib.hid (has_setRow_other7 (show Has ((v4.alloc (.cells #[.int .i64 0, .int .i64 0, .int .u32 0, .int .u32 0, .int .u32 0, .int .u32 0, .int .i64 0, .int .u32 0, .int .u32 0, .int .u32 0, .int .u32 0, .int .u32 0, .int .u32 0, .bool false, .int .u32 0, .int .u32 0] 26)).alloc (.cells #[.int .i64 0, .int .i64 0, .int .u32 0, .int .u32 0, .int .u32 0, .int .u32 0, .int .i64 0, .int .u32 0, .int .u32 0, .int .u32 0, .int .u32 0, .int .u32 0, .int .u32 0, .bool false, .int .u32 0, .int .u32 0] 26)) (v4.heap.size + 1) 26 #[.int .i64 0, .int .i64 0, .int .u32 0, .int .u32 0, .int .u32 0, .int .u32 0, .int .i64 0, .int .u32 0, .int .u32 0, .int .u32 0, .int .u32 0, .int .u32 0, .int .u32 0, .bool false, .int .u32 0, .int .u32 0] from has_at (by simp)) (by omega) (prA (upX other train c' d')))
  obtain ⟨v5, hv5⟩ : ∃ v5, (((v4.alloc (.cells #[.int .i64 0, .int .i64 0, .int .u32 0, .int .u32 0, .int .u32 0, .int .u32 0, .int .i64 0, .int .u32 0, .int .u32 0, .int .u32 0, .int .u32 0, .int .u32 0, .int .u32 0, .bool false, .int .u32 0, .int .u32 0] 26)).alloc (.cells #[.int .i64 0, .int .i64 0, .int .u32 0, .int .u32 0, .int .u32 0, .int .u32 0, .int .i64 0, .int .u32 0, .int .u32 0, .int .u32 0, .int .u32 0, .int .u32 0, .int .u32 0, .bool false, .int .u32 0, .int .u32 0] 26)).setRow (v4.heap.size) (prA (upX other train c' d'))).setRow (v4.heap.size + 1) (prA (upY other train c' d')) = v5 := ⟨_, rfl⟩
  have hbw : Below v4.heap.size v4 v5 := by rw [← hv5]; exact (below_row (g := v4.heap.size + 1) (below_row (g := v4.heap.size) (Below.alloc (Below.alloc (Below.refl v4.heap.size v4) (Nat.le_refl _) (.cells #[.int .i64 0, .int .i64 0, .int .u32 0, .int .u32 0, .int .u32 0, .int .u32 0, .int .i64 0, .int .u32 0, .int .u32 0, .int .u32 0, .int .u32 0, .int .u32 0, .int .u32 0, .bool false, .int .u32 0, .int .u32 0] 26)) (by simp) (.cells #[.int .i64 0, .int .i64 0, .int .u32 0, .int .u32 0, .int .u32 0, .int .u32 0, .int .i64 0, .int .u32 0, .int .u32 0, .int .u32 0, .int .u32 0, .int .u32 0, .int .u32 0, .bool false, .int .u32 0, .int .u32 0] 26)) (by omega) (prA (upX other train c' d'))) (by omega) (prA (upY other train c' d')))
  have HB5 : Hid (Has v5 (w.heap.size) 24 #[.int .u32 (base.a : Nat), .int .u32 (base.b : Nat), .int .u32 (base.c : Nat), .int .u32 (base.d : Nat)] ∧ Has v5 (w.heap.size + 1) 24 #[.int .u32 (other.a : Nat), .int .u32 (other.b : Nat), .int .u32 (other.c : Nat), .int .u32 (other.d : Nat)] ∧ Has v5 (v2.heap.size) 26 (prA (upX base train a b)) ∧ Has v5 (v2.heap.size + 1) 26 (prA (upY base train a b)) ∧ Has v5 (v4.heap.size) 26 (prA (upX other train c' d')) ∧ Has v5 (v4.heap.size + 1) 26 (prA (upY other train c' d')) ∧ Below w.heap.size w v5) := Lib.hid ⟨s0.under hbw s0.lt, s1.under hbw s1.lt, s2.under hbw s2.lt, s3.under hbw s3.lt, (by rw [← hv5]; exact (has_setRow_other7 (has_setRow7 (Has.beside (Has.made v4 26 #[.int .i64 0, .int .i64 0, .int .u32 0, .int .u32 0, .int .u32 0, .int .u32 0, .int .i64 0, .int .u32 0, .int .u32 0, .int .u32 0, .int .u32 0, .int .u32 0, .int .u32 0, .bool false, .int .u32 0, .int .u32 0]) (.cells #[.int .i64 0, .int .i64 0, .int .u32 0, .int .u32 0, .int .u32 0, .int .u32 0, .int .i64 0, .int .u32 0, .int .u32 0, .int .u32 0, .int .u32 0, .int .u32 0, .int .u32 0, .bool false, .int .u32 0, .int .u32 0] 26)) (prA (upX other train c' d'))) (by omega) (prA (upY other train c' d')))), (by rw [← hv5]; exact (has_setRow7 (has_setRow_other7 (show Has ((v4.alloc (.cells #[.int .i64 0, .int .i64 0, .int .u32 0, .int .u32 0, .int .u32 0, .int .u32 0, .int .i64 0, .int .u32 0, .int .u32 0, .int .u32 0, .int .u32 0, .int .u32 0, .int .u32 0, .bool false, .int .u32 0, .int .u32 0] 26)).alloc (.cells #[.int .i64 0, .int .i64 0, .int .u32 0, .int .u32 0, .int .u32 0, .int .u32 0, .int .i64 0, .int .u32 0, .int .u32 0, .int .u32 0, .int .u32 0, .int .u32 0, .int .u32 0, .bool false, .int .u32 0, .int .u32 0] 26)) (v4.heap.size + 1) 26 #[.int .i64 0, .int .i64 0, .int .u32 0, .int .u32 0, .int .u32 0, .int .u32 0, .int .i64 0, .int .u32 0, .int .u32 0, .int .u32 0, .int .u32 0, .int .u32 0, .int .u32 0, .bool false, .int .u32 0, .int .u32 0] from has_at (by simp)) (by omega) (prA (upX other train c' d'))) (prA (upY other train c' d')))), s4.trans (hbw.mono s4.size)⟩
  clear hbw
  have HWv5 := Lib.hid hv5
  clear s0 s1 s2 s3 s4
  clear hv5 HB4
  go_upto_region 8 with (first | (with_reducible refine wpList_store_rowTo (o := ⟨none, _, _, _, _, _⟩) rfl 26 _ _ rfl rfl (v4.heap.size) (prA (upX other train c' d')) rfl rfl 26 _ (HS0.out).raw (by kernel_rfl) (by kernel_rfl) (by kernel_rfl) ?_) | (with_reducible refine wpList_store_rowTo (o := ⟨none, _, _, _, _, _⟩) rfl 26 _ _ rfl rfl (v4.heap.size + 1) (prA (upY other train c' d')) rfl rfl 26 _ (HS1.out).raw (by kernel_rfl) (by kernel_rfl) (by kernel_rfl) ?_))
  rw [HWv5.out]
  clear HWv5 HS0 HS1
  obtain ⟨s0, s1, s2, s3, s4, s5, s6⟩ := HB5.out
  have HL0 := Lib.hid s4
  have HK := Lib.hid (HD.out v5 (HSL.out _ s6))
  clear s0 s1 s2 s3 s4 s5 s6
  go_wp2_with (first | (with_reducible refine wpList_load_row (o := ⟨some 88, _, _, _, _, _⟩) rfl 26 _ rfl (v4.heap.size) rfl 26 (prA (upX other train c' d')) (0, 0) _ (HL0.out).raw Try.underlying26 rfl (by kernel_rfl) ?_))
  refine HK.out.mono ?_
  rintro e v6 ⟨A2, c2, rfl, hs2, _, hb1⟩
  obtain ⟨s0, s1, s2, s3, s4, s5, s6⟩ := HB5.out
  have hbn : Below v5.heap.size v5 v6 := hb1.out
  have HB6 : Hid (Has v6 (w.heap.size) 24 #[.int .u32 (base.a : Nat), .int .u32 (base.b : Nat), .int .u32 (base.c : Nat), .int .u32 (base.d : Nat)] ∧ Has v6 (w.heap.size + 1) 24 #[.int .u32 (other.a : Nat), .int .u32 (other.b : Nat), .int .u32 (other.c : Nat), .int .u32 (other.d : Nat)] ∧ Has v6 (v2.heap.size) 26 (prA (upX base train a b)) ∧ Has v6 (v2.heap.size + 1) 26 (prA (upY base train a b)) ∧ Has v6 (v4.heap.size) 26 (prA (upX other train c' d')) ∧ Has v6 (v4.heap.size + 1) 26 (prA (upY other train c' d')) ∧ Below w.heap.size w v6) := Lib.hid ⟨s0.under hbn s0.lt, s1.under hbn s1.lt, s2.under hbn s2.lt, s3.under hbn s3.lt, s4.under hbn s4.lt, s5.under hbn s5.lt, s6.trans (hbn.mono s6.size)⟩
  clear s0 s1 s2 s3 s4 s5 s6
  clear HK HB5 HL0 HD hb1
  clear hbn
  obtain ⟨s0, s1, s2, s3, s4, s5, s6⟩ := HB6.out
  have HB7 : Hid (Has v6 (w.heap.size) 24 #[.int .u32 (base.a : Nat), .int .u32 (base.b : Nat), .int .u32 (base.c : Nat), .int .u32 (base.d : Nat)] ∧ Has v6 (w.heap.size + 1) 24 #[.int .u32 (other.a : Nat), .int .u32 (other.b : Nat), .int .u32 (other.c : Nat), .int .u32 (other.d : Nat)] ∧ Has v6 (v2.heap.size) 26 (prA (upX base train a b)) ∧ Has v6 (v2.heap.size + 1) 26 (prA (upY base train a b)) ∧ Has v6 (v4.heap.size) 26 (prA (upX other train c' d')) ∧ Has v6 (v4.heap.size + 1) 26 (prA (upY other train c' d')) ∧ Sl v6 1 A2 (datP (deriveF other c' d') false train d' xs).body.length c2 (u8s (datP (deriveF other c' d') false train d' xs).body) ∧ Below w.heap.size w v6) := Lib.hid ⟨s0, s1, s2, s3, s4, s5, hs2.out, s6⟩
  clear s0 s1 s2 s3 s4 s5 s6
  clear HB6
  clear hs2
  obtain ⟨s0, s1, s2, s3, s4, s5, s6, s7⟩ := HB7.out
  have lt6_7 : v4.heap.size + 1 < v6.heap.size := s5.lt
  have le6_7 : w.heap.size ≤ v6.heap.size := s7.size
  have HS0 : Hid (Has (v6.alloc (.cells #[.int .i64 0, .int .i64 0, .int .i64 0, .int .u32 0, .int .u32 0, .slice none 0 0, .int .u64 0] 30)) (v6.heap.size) 30 #[.int .i64 0, .int .i64 0, .int .i64 0, .int .u32 0, .int .u32 0, .slice none 0 0, .int .u64 0]) := Lib.hid (Has.made v6 30 #[.int .i64 0, .int .i64 0, .int .i64 0, .int .u32 0, .int .u32 0, .slice none 0 0, .int .u64 0])
  obtain ⟨v7, hv7⟩ : ∃ v7, (v6.alloc (.cells #[.int .i64 0, .int .i64 0, .int .i64 0, .int .u32 0, .int .u32 0, .slice none 0 0, .int .u64 0] 30)).setRow (v6.heap.size) (pdA (datP (deriveF other c' d') false train d' xs) A2 c2) = v7 := ⟨_, rfl⟩
  have hbw : Below v6.heap.size v6 v7 := by rw [← hv7]; exact (below_row (g := v6.heap.size) (Below.alloc (Below.refl v6.heap.size v6) (Nat.le_refl _) (.cells #[.int .i64 0, .int .i64 0, .int .i64 0, .int .u32 0, .int .u32 0, .slice none 0 0, .int .u64 0] 30)) (by omega) (pdA (datP (deriveF other c' d') false train d' xs) A2 c2))
  have HB8 : Hid (Has v7 (w.heap.size) 24 #[.int .u32 (base.a : Nat), .int .u32 (base.b : Nat), .int .u32 (base.c : Nat), .int .u32 (base.d : Nat)] ∧ Has v7 (w.heap.size + 1) 24 #[.int .u32 (other.a : Nat), .int .u32 (other.b : Nat), .int .u32 (other.c : Nat), .int .u32 (other.d : Nat)] ∧ Has v7 (v2.heap.size) 26 (prA (upX base train a b)) ∧ Has v7 (v2.heap.size + 1) 26 (prA (upY base train a b)) ∧ Has v7 (v4.heap.size) 26 (prA (upX other train c' d')) ∧ Has v7 (v4.heap.size + 1) 26 (prA (upY other train c' d')) ∧ Sl v7 1 A2 (datP (deriveF other c' d') false train d' xs).body.length c2 (u8s (datP (deriveF other c' d') false train d' xs).body) ∧ Has v7 (v6.heap.size) 30 (pdA (datP (deriveF other c' d') false train d' xs) A2 c2) ∧ Below w.heap.size w v7) := Lib.hid ⟨s0.under hbw s0.lt, s1.under hbw s1.lt, s2.under hbw s2.lt, s3.under hbw s3.lt, s4.under hbw s4.lt, s5.under hbw s5.lt, s6.under hbw, (by rw [← hv7]; exact (has_setRow7 (Has.made v6 30 #[.int .i64 0, .int .i64 0, .int .i64 0, .int .u32 0, .int .u32 0, .slice none 0 0, .int .u64 0]) (pdA (datP (deriveF other c' d') false train d' xs) A2 c2))), s7.trans (hbw.mono s7.size)⟩
  clear hbw
  have HWv7 := Lib.hid hv7
  clear s0 s1 s2 s3 s4 s5 s6 s7
  clear hv7 HB7
  go_upto_region 9 with (first | (with_reducible refine wpList_store_rowTo (o := ⟨none, _, _, _, _, _⟩) rfl 30 _ _ rfl rfl (v6.heap.size) (pdA (datP (deriveF other c' d') false train d' xs) A2 c2) rfl rfl 30 _ (HS0.out).raw (by kernel_rfl) (by kernel_rfl) (by kernel_rfl) ?_))
  rw [HWv7.out]
  clear HWv7 HS0
  obtain ⟨s0, s1, s2, s3, s4, s5, s6, s7, s8⟩ := HB8.out
  have HL0 := Lib.hid s5
  have HK := Lib.hid (HE.out v7 (HSL.out _ s8))
  clear s0 s1 s2 s3 s4 s5 s6 s7 s8
  go_wp2_with (first | (with_reducible refine wpList_load_row (o := ⟨some 94, _, _, _, _, _⟩) rfl 26 _ rfl (v4.heap.size + 1) rfl 26 (prA (upY other train c' d')) (0, 0) _ (HL0.out).raw Try.underlying26 rfl (by kernel_rfl) ?_))
  refine HK.out.mono ?_
  rintro e v8 ⟨A3, c3, rfl, hs3, _, hb1⟩
  obtain ⟨s0, s1, s2, s3, s4, s5, s6, s7, s8⟩ := HB8.out
  have hbn : Below v7.heap.size v7 v8 := hb1.out
  have HB9 : Hid (Has v8 (w.heap.size) 24 #[.int .u32 (base.a : Nat), .int .u32 (base.b : Nat), .int .u32 (base.c : Nat), .int .u32 (base.d : Nat)] ∧ Has v8 (w.heap.size + 1) 24 #[.int .u32 (other.a : Nat), .int .u32 (other.b : Nat), .int .u32 (other.c : Nat), .int .u32 (other.d : Nat)] ∧ Has v8 (v2.heap.size) 26 (prA (upX base train a b)) ∧ Has v8 (v2.heap.size + 1) 26 (prA (upY base train a b)) ∧ Has v8 (v4.heap.size) 26 (prA (upX other train c' d')) ∧ Has v8 (v4.heap.size + 1) 26 (prA (upY other train c' d')) ∧ Sl v8 1 A2 (datP (deriveF other c' d') false train d' xs).body.length c2 (u8s (datP (deriveF other c' d') false train d' xs).body) ∧ Has v8 (v6.heap.size) 30 (pdA (datP (deriveF other c' d') false train d' xs) A2 c2) ∧ Below w.heap.size w v8) := Lib.hid ⟨s0.under hbn s0.lt, s1.under hbn s1.lt, s2.under hbn s2.lt, s3.under hbn s3.lt, s4.under hbn s4.lt, s5.under hbn s5.lt, s6.under hbn, s7.under hbn s7.lt, s8.trans (hbn.mono s8.size)⟩
  clear s0 s1 s2 s3 s4 s5 s6 s7 s8
  clear HK HB8 HL0 HE hb1
  clear hbn
  obtain ⟨s0, s1, s2, s3, s4, s5, s6, s7, s8⟩ := HB9.out
  have HB10 : Hid (Has v8 (w.heap.size) 24 #[.int .u32 (base.a : Nat), .int .u32 (base.b : Nat), .int .u32 (base.c : Nat), .int .u32 (base.d : Nat)] ∧ Has v8 (w.heap.size + 1) 24 #[.int .u32 (other.a : Nat), .int .u32 (other.b : Nat), .int .u32 (other.c : Nat), .int .u32 (other.d : Nat)] ∧ Has v8 (v2.heap.size) 26 (prA (upX base train a b)) ∧ Has v8 (v2.heap.size + 1) 26 (prA (upY base train a b)) ∧ Has v8 (v4.heap.size) 26 (prA (upX other train c' d')) ∧ Has v8 (v4.heap.size + 1) 26 (prA (upY other train c' d')) ∧ Sl v8 1 A2 (datP (deriveF other c' d') false train d' xs).body.length c2 (u8s (datP (deriveF other c' d') false train d' xs).body) ∧ Has v8 (v6.heap.size) 30 (pdA (datP (deriveF other c' d') false train d' xs) A2 c2) ∧ Sl v8 1 A3 (datP (deriveF other c' d') true train d' xs).body.length c3 (u8s (datP (deriveF other c' d') true train d' xs).body) ∧ Below w.heap.size w v8) := Lib.hid ⟨s0, s1, s2, s3, s4, s5, s6, s7, hs3.out, s8⟩
  clear s0 s1 s2 s3 s4 s5 s6 s7 s8
  clear HB9
  clear hs3
  obtain ⟨s0, s1, s2, s3, s4, s5, s6, s7, s8, s9⟩ := HB10.out
  have lt8_10 : v6.heap.size < v8.heap.size := s7.lt
  have le8_10 : w.heap.size ≤ v8.heap.size := s9.size
  have HS0 : Hid (Has (v8.alloc (.cells #[.int .i64 0, .int .i64 0, .int .i64 0, .int .u32 0, .int .u32 0, .slice none 0 0, .int .u64 0] 30)) (v8.heap.size) 30 #[.int .i64 0, .int .i64 0, .int .i64 0, .int .u32 0, .int .u32 0, .slice none 0 0, .int .u64 0]) := Lib.hid (Has.made v8 30 #[.int .i64 0, .int .i64 0, .int .i64 0, .int .u32 0, .int .u32 0, .slice none 0 0, .int .u64 0])
  obtain ⟨v9, hv9⟩ : ∃ v9, (v8.alloc (.cells #[.int .i64 0, .int .i64 0, .int .i64 0, .int .u32 0, .int .u32 0, .slice none 0 0, .int .u64 0] 30)).setRow (v8.heap.size) (pdA (datP (deriveF other c' d') true train d' xs) A3 c3) = v9 := ⟨_, rfl⟩
  have hbw : Below v8.heap.size v8 v9 := by rw [← hv9]; exact (below_row (g := v8.heap.size) (Below.alloc (Below.refl v8.heap.size v8) (Nat.le_refl _) (.cells #[.int .i64 0, .int .i64 0, .int .i64 0, .int .u32 0, .int .u32 0, .slice none 0 0, .int .u64 0] 30)) (by omega) (pdA (datP (deriveF other c' d') true train d' xs) A3 c3))
  have HB11 : Hid (Has v9 (w.heap.size) 24 #[.int .u32 (base.a : Nat), .int .u32 (base.b : Nat), .int .u32 (base.c : Nat), .int .u32 (base.d : Nat)] ∧ Has v9 (w.heap.size + 1) 24 #[.int .u32 (other.a : Nat), .int .u32 (other.b : Nat), .int .u32 (other.c : Nat), .int .u32 (other.d : Nat)] ∧ Has v9 (v2.heap.size) 26 (prA (upX base train a b)) ∧ Has v9 (v2.heap.size + 1) 26 (prA (upY base train a b)) ∧ Has v9 (v4.heap.size) 26 (prA (upX other train c' d')) ∧ Has v9 (v4.heap.size + 1) 26 (prA (upY other train c' d')) ∧ Sl v9 1 A2 (datP (deriveF other c' d') false train d' xs).body.length c2 (u8s (datP (deriveF other c' d') false train d' xs).body) ∧ Has v9 (v6.heap.size) 30 (pdA (datP (deriveF other c' d') false train d' xs) A2 c2) ∧ Sl v9 1 A3 (datP (deriveF other c' d') true train d' xs).body.length c3 (u8s (datP (deriveF other c' d') true train d' xs).body) ∧ Has v9 (v8.heap.size) 30 (pdA (datP (deriveF other c' d') true train d' xs) A3 c3) ∧ Below w.heap.size w v9) := Lib.hid ⟨s0.under hbw s0.lt, s1.under hbw s1.lt, s2.under hbw s2.lt, s3.under hbw s3.lt, s4.under hbw s4.lt, s5.under hbw s5.lt, s6.under hbw, s7.under hbw s7.lt, s8.under hbw, (by rw [← hv9]; exact (has_setRow7 (Has.made v8 30 #[.int .i64 0, .int .i64 0, .int .i64 0, .int .u32 0, .int .u32 0, .slice none 0 0, .int .u64 0]) (pdA (datP (deriveF other c' d') true train d' xs) A3 c3))), s9.trans (hbw.mono s9.size)⟩
  clear hbw
  have HWv9 := Lib.hid hv9
  clear s0 s1 s2 s3 s4 s5 s6 s7 s8 s9
  clear hv9 HB10
  go_upto_region 12 with (first | (with_reducible refine wpList_store_rowTo (o := ⟨none, _, _, _, _, _⟩) rfl 30 _ _ rfl rfl (v8.heap.size) (pdA (datP (deriveF other c' d') true train d' xs) A3 c3) rfl rfl 30 _ (HS0.out).raw (by kernel_rfl) (by kernel_rfl) (by kernel_rfl) ?_))
  rw [HWv9.out]
  clear HWv9 HS0
  obtain ⟨s0, s1, s2, s3, s4, s5, s6, s7, s8, s9, s10⟩ := HB11.out
  have HL0 := Lib.hid s3
  have HL1 := Lib.hid s7
  have HK := Lib.hid (HT1.out A2 c2 v9 s6)
  clear s0 s1 s2 s3 s4 s5 s6 s7 s8 s9 s10
  go_wp2_with (first | (with_reducible refine wpList_load_row (o := ⟨some 106, _, _, _, _, _⟩) rfl 26 _ rfl (v2.heap.size + 1) rfl 26 (prA (upY base train a b)) (0, 0) _ (HL0.out).raw Try.underlying26 rfl (by kernel_rfl) ?_) | (with_reducible refine wpList_load_row (o := ⟨some 107, _, _, _, _, _⟩) rfl 30 _ rfl (v6.heap.size) rfl 30 (pdA (datP (deriveF other c' d') false train d' xs) A2 c2) (0, 0) _ (HL1.out).raw Try.underlying30 rfl (by kernel_rfl) ?_))
  refine HK.out.mono ?_
  rintro e v10 ⟨A4, c4, rfl, _, _, hb1⟩
  obtain ⟨s0, s1, s2, s3, s4, s5, s6, s7, s8, s9, s10⟩ := HB11.out
  have hbn : Below v9.heap.size v9 v10 := hb1.out
  have HB12 : Hid (Has v10 (w.heap.size) 24 #[.int .u32 (base.a : Nat), .int .u32 (base.b : Nat), .int .u32 (base.c : Nat), .int .u32 (base.d : Nat)] ∧ Has v10 (w.heap.size + 1) 24 #[.int .u32 (other.a : Nat), .int .u32 (other.b : Nat), .int .u32 (other.c : Nat), .int .u32 (other.d : Nat)] ∧ Has v10 (v2.heap.size) 26 (prA (upX base train a b)) ∧ Has v10 (v2.heap.size + 1) 26 (prA (upY base train a b)) ∧ Has v10 (v4.heap.size) 26 (prA (upX other train c' d')) ∧ Has v10 (v4.heap.size + 1) 26 (prA (upY other train c' d')) ∧ Sl v10 1 A2 (datP (deriveF other c' d') false train d' xs).body.length c2 (u8s (datP (deriveF other c' d') false train d' xs).body) ∧ Has v10 (v6.heap.size) 30 (pdA (datP (deriveF other c' d') false train d' xs) A2 c2) ∧ Sl v10 1 A3 (datP (deriveF other c' d') true train d' xs).body.length c3 (u8s (datP (deriveF other c' d') true train d' xs).body) ∧ Has v10 (v8.heap.size) 30 (pdA (datP (deriveF other c' d') true train d' xs) A3 c3) ∧ Below w.heap.size w v10) := Lib.hid ⟨s0.under hbn s0.lt, s1.under hbn s1.lt, s2.under hbn s2.lt, s3.under hbn s3.lt, s4.under hbn s4.lt, s5.under hbn s5.lt, s6.under hbn, s7.under hbn s7.lt, s8.under hbn, s9.under hbn s9.lt, s10.trans (hbn.mono s10.size)⟩
  clear s0 s1 s2 s3 s4 s5 s6 s7 s8 s9 s10
  clear HK HB11 HL0 HL1 HT1 hb1
  clear hbn
  obtain ⟨s0, s1, s2, s3, s4, s5, s6, s7, s8, s9, s10⟩ := HB12.out
  have HL0 := Lib.hid s2
  have HL1 := Lib.hid s9
  have HK := Lib.hid (HT2.out A3 c3 v10 s8)
  clear s0 s1 s2 s3 s4 s5 s6 s7 s8 s9 s10
  go_wp2_with (first | (with_reducible refine wpList_load_row (o := ⟨some 112, _, _, _, _, _⟩) rfl 26 _ rfl (v2.heap.size) rfl 26 (prA (upX base train a b)) (0, 0) _ (HL0.out).raw Try.underlying26 rfl (by kernel_rfl) ?_) | (with_reducible refine wpList_load_row (o := ⟨some 113, _, _, _, _, _⟩) rfl 30 _ rfl (v8.heap.size) rfl 30 (pdA (datP (deriveF other c' d') true train d' xs) A3 c3) (0, 0) _ (HL1.out).raw Try.underlying30 rfl (by kernel_rfl) ?_))
  refine HK.out.mono ?_
  rintro e v11 ⟨A5, c5, rfl, _, _, hb1⟩
  obtain ⟨s0, s1, s2, s3, s4, s5, s6, s7, s8, s9, s10⟩ := HB12.out
  have hbn : Below v10.heap.size v10 v11 := hb1.out
  have HB13 : Hid (Has v11 (w.heap.size) 24 #[.int .u32 (base.a : Nat), .int .u32 (base.b : Nat), .int .u32 (base.c : Nat), .int .u32 (base.d : Nat)] ∧ Has v11 (w.heap.size + 1) 24 #[.int .u32 (other.a : Nat), .int .u32 (other.b : Nat), .int .u32 (other.c : Nat), .int .u32 (other.d : Nat)] ∧ Has v11 (v2.heap.size) 26 (prA (upX base train a b)) ∧ Has v11 (v2.heap.size + 1) 26 (prA (upY base train a b)) ∧ Has v11 (v4.heap.size) 26 (prA (upX other train c' d')) ∧ Has v11 (v4.heap.size + 1) 26 (prA (upY other train c' d')) ∧ Sl v11 1 A2 (datP (deriveF other c' d') false train d' xs).body.length c2 (u8s (datP (deriveF other c' d') false train d' xs).body) ∧ Has v11 (v6.heap.size) 30 (pdA (datP (deriveF other c' d') false train d' xs) A2 c2) ∧ Sl v11 1 A3 (datP (deriveF other c' d') true train d' xs).body.length c3 (u8s (datP (deriveF other c' d') true train d' xs).body) ∧ Has v11 (v8.heap.size) 30 (pdA (datP (deriveF other c' d') true train d' xs) A3 c3) ∧ Below w.heap.size w v11) := Lib.hid ⟨s0.under hbn s0.lt, s1.under hbn s1.lt, s2.under hbn s2.lt, s3.under hbn s3.lt, s4.under hbn s4.lt, s5.under hbn s5.lt, s6.under hbn, s7.under hbn s7.lt, s8.under hbn, s9.under hbn s9.lt, s10.trans (hbn.mono s10.size)⟩
  clear s0 s1 s2 s3 s4 s5 s6 s7 s8 s9 s10
  clear HK HB12 HL0 HL1 HT2 hb1
  clear hbn
  rcases HGO.out with hq | ⟨hq, rfl, rfl⟩
  all_goals
    clear HGO
    obtain ⟨s0, s1, s2, s3, s4, s5, s6, s7, s8, s9, s10⟩ := HB13.out
    have HL0 := Lib.hid s2
    have HK := Lib.hid (HA.out v11)
    clear s0 s1 s2 s3 s4 s5 s6 s7 s8 s9 s10
    go_wp2_with (first | (with_reducible refine wpList_load_row (o := ⟨some 129, _, _, _, _, _⟩) rfl 26 _ rfl (v2.heap.size) rfl 26 (prA (upX base train a b)) (0, 0) _ (HL0.out).raw Try.underlying26 rfl (by kernel_rfl) ?_))
    refine HK.out.mono ?_
    rintro e v12 ⟨rfl, hb1⟩
    obtain ⟨s0, s1, s2, s3, s4, s5, s6, s7, s8, s9, s10⟩ := HB13.out
    have hbn : Below v11.heap.size v11 v12 := hb1
    have HB14 : Hid (Has v12 (w.heap.size) 24 #[.int .u32 (base.a : Nat), .int .u32 (base.b : Nat), .int .u32 (base.c : Nat), .int .u32 (base.d : Nat)] ∧ Has v12 (w.heap.size + 1) 24 #[.int .u32 (other.a : Nat), .int .u32 (other.b : Nat), .int .u32 (other.c : Nat), .int .u32 (other.d : Nat)] ∧ Has v12 (v2.heap.size) 26 (prA (upX base train a b)) ∧ Has v12 (v2.heap.size + 1) 26 (prA (upY base train a b)) ∧ Has v12 (v4.heap.size) 26 (prA (upX other train c' d')) ∧ Has v12 (v4.heap.size + 1) 26 (prA (upY other train c' d')) ∧ Sl v12 1 A2 (datP (deriveF other c' d') false train d' xs).body.length c2 (u8s (datP (deriveF other c' d') false train d' xs).body) ∧ Has v12 (v6.heap.size) 30 (pdA (datP (deriveF other c' d') false train d' xs) A2 c2) ∧ Sl v12 1 A3 (datP (deriveF other c' d') true train d' xs).body.length c3 (u8s (datP (deriveF other c' d') true train d' xs).body) ∧ Has v12 (v8.heap.size) 30 (pdA (datP (deriveF other c' d') true train d' xs) A3 c3) ∧ Below w.heap.size w v12) := Lib.hid ⟨s0.under hbn s0.lt, s1.under hbn s1.lt, s2.under hbn s2.lt, s3.under hbn s3.lt, s4.under hbn s4.lt, s5.under hbn s5.lt, s6.under hbn, s7.under hbn s7.lt, s8.under hbn, s9.under hbn s9.lt, s10.trans (hbn.mono s10.size)⟩
    clear s0 s1 s2 s3 s4 s5 s6 s7 s8 s9 s10
    clear HK HB13 HL0 HA hb1 hq
    clear hbn
    obtain ⟨s0, s1, s2, s3, s4, s5, s6, s7, s8, s9, s10⟩ := HB14.out
    have lt12_14 : v8.heap.size < v12.heap.size := s9.lt
    have le12_14 : w.heap.size ≤ v12.heap.size := s10.size
    have HS0 : Hid (Has ((v12.alloc (.cells #[.int .i64 0, .int .i64 0, .int .u32 0, .int .u32 0, .int .u32 0, .int .u32 0, .int .i64 0, .int .u32 0, .int .u32 0, .int .u32 0, .int .u32 0, .int .u32 0, .int .u32 0, .bool false, .int .u32 0, .int .u32 0] 26)).alloc (.cells #[.int .i64 0, .int .i64 0, .int .i64 0, .int .u32 0, .int .u32 0, .slice none 0 0, .int .u64 0] 30)) (v12.heap.size) 26 #[.int .i64 0, .int .i64 0, .int .u32 0, .int .u32 0, .int .u32 0, .int .u32 0, .int .i64 0, .int .u32 0, .int .u32 0, .int .u32 0, .int .u32 0, .int .u32 0, .int .u32 0, .bool false, .int .u32 0, .int .u32 0]) := Lib.hid (Has.beside (Has.made v12 26 #[.int .i64 0, .int .i64 0, .int .u32 0, .int .u32 0, .int .u32 0, .int .u32 0, .int .i64 0, .int .u32 0, .int .u32 0, .int .u32 0, .int .u32 0, .int .u32 0, .int .u32 0, .bool false, .int .u32 0, .int .u32 0]) (.cells #[.int .i64 0, .int .i64 0, .int .i64 0, .int .u32 0, .int .u32 0, .slice none 0 0, .int .u64 0] 30))
    have HS1 : Hid (Has (((v12.alloc (.cells #[.int .i64 0, .int .i64 0, .int .u32 0, .int .u32 0, .int .u32 0, .int .u32 0, .int .i64 0, .int .u32 0, .int .u32 0, .int .u32 0, .int .u32 0, .int .u32 0, .int .u32 0, .bool false, .int .u32 0, .int .u32 0] 26)).alloc (.cells #[.int .i64 0, .int .i64 0, .int .i64 0, .int .u32 0, .int .u32 0, .slice none 0 0, .int .u64 0] 30)).setRow (v12.heap.size) (prA (askX base train a))) (v12.heap.size + 1) 30 #[.int .i64 0, .int .i64 0, .int .i64 0, .int .u32 0, .int .u32 0, .slice none 0 0, .int .u64 0]) := Lib.hid (has_setRow_other7 (show Has ((v12.alloc (.cells #[.int .i64 0, .int .i64 0, .int .u32 0, .int .u32 0, .int .u32 0, .int .u32 0, .int .i64 0, .int .u32 0, .int .u32 0, .int .u32 0, .int .u32 0, .int .u32 0, .int .u32 0, .bool false, .int .u32 0, .int .u32 0] 26)).alloc (.cells #[.int .i64 0, .int .i64 0, .int .i64 0, .int .u32 0, .int .u32 0, .slice none 0 0, .int .u64 0] 30)) (v12.heap.size + 1) 30 #[.int .i64 0, .int .i64 0, .int .i64 0, .int .u32 0, .int .u32 0, .slice none 0 0, .int .u64 0] from has_at (by simp)) (by omega) (prA (askX base train a)))
    obtain ⟨v13, hv13⟩ : ∃ v13, (((v12.alloc (.cells #[.int .i64 0, .int .i64 0, .int .u32 0, .int .u32 0, .int .u32 0, .int .u32 0, .int .i64 0, .int .u32 0, .int .u32 0, .int .u32 0, .int .u32 0, .int .u32 0, .int .u32 0, .bool false, .int .u32 0, .int .u32 0] 26)).alloc (.cells #[.int .i64 0, .int .i64 0, .int .i64 0, .int .u32 0, .int .u32 0, .slice none 0 0, .int .u64 0] 30)).setRow (v12.heap.size) (prA (askX base train a))).setRow (v12.heap.size + 1) (pdA (askP train a) none 0) = v13 := ⟨_, rfl⟩
    have hbw : Below v12.heap.size v12 v13 := by rw [← hv13]; exact (below_row (g := v12.heap.size + 1) (below_row (g := v12.heap.size) (Below.alloc (Below.alloc (Below.refl v12.heap.size v12) (Nat.le_refl _) (.cells #[.int .i64 0, .int .i64 0, .int .u32 0, .int .u32 0, .int .u32 0, .int .u32 0, .int .i64 0, .int .u32 0, .int .u32 0, .int .u32 0, .int .u32 0, .int .u32 0, .int .u32 0, .bool false, .int .u32 0, .int .u32 0] 26)) (by simp) (.cells #[.int .i64 0, .int .i64 0, .int .i64 0, .int .u32 0, .int .u32 0, .slice none 0 0, .int .u64 0] 30)) (by omega) (prA (askX base train a))) (by omega) (pdA (askP train a) none 0))
    have HB15 : Hid (Has v13 (w.heap.size) 24 #[.int .u32 (base.a : Nat), .int .u32 (base.b : Nat), .int .u32 (base.c : Nat), .int .u32 (base.d : Nat)] ∧ Has v13 (w.heap.size + 1) 24 #[.int .u32 (other.a : Nat), .int .u32 (other.b : Nat), .int .u32 (other.c : Nat), .int .u32 (other.d : Nat)] ∧ Has v13 (v2.heap.size) 26 (prA (upX base train a b)) ∧ Has v13 (v2.heap.size + 1) 26 (prA (upY base train a b)) ∧ Has v13 (v4.heap.size) 26 (prA (upX other train c' d')) ∧ Has v13 (v4.heap.size + 1) 26 (prA (upY other train c' d')) ∧ Sl v13 1 A2 (datP (deriveF other c' d') false train d' xs).body.length c2 (u8s (datP (deriveF other c' d') false train d' xs).body) ∧ Has v13 (v6.heap.size) 30 (pdA (datP (deriveF other c' d') false train d' xs) A2 c2) ∧ Sl v13 1 A3 (datP (deriveF other c' d') true train d' xs).body.length c3 (u8s (datP (deriveF other c' d') true train d' xs).body) ∧ Has v13 (v8.heap.size) 30 (pdA (datP (deriveF other c' d') true train d' xs) A3 c3) ∧ Has v13 (v12.heap.size) 26 (prA (askX base train a)) ∧ Has v13 (v12.heap.size + 1) 30 (pdA (askP train a) none 0) ∧ Below w.heap.size w v13) := Lib.hid ⟨s0.under hbw s0.lt, s1.under hbw s1.lt, s2.under hbw s2.lt, s3.under hbw s3.lt, s4.under hbw s4.lt, s5.under hbw s5.lt, s6.under hbw, s7.under hbw s7.lt, s8.under hbw, s9.under hbw s9.lt, (by rw [← hv13]; exact (has_setRow_other7 (has_setRow7 (Has.beside (Has.made v12 26 #[.int .i64 0, .int .i64 0, .int .u32 0, .int .u32 0, .int .u32 0, .int .u32 0, .int .i64 0, .int .u32 0, .int .u32 0, .int .u32 0, .int .u32 0, .int .u32 0, .int .u32 0, .bool false, .int .u32 0, .int .u32 0]) (.cells #[.int .i64 0, .int .i64 0, .int .i64 0, .int .u32 0, .int .u32 0, .slice none 0 0, .int .u64 0] 30)) (prA (askX base train a))) (by omega) (pdA (askP train a) none 0))), (by rw [← hv13]; exact (has_setRow7 (has_setRow_other7 (show Has ((v12.alloc (.cells #[.int .i64 0, .int .i64 0, .int .u32 0, .int .u32 0, .int .u32 0, .int .u32 0, .int .i64 0, .int .u32 0, .int .u32 0, .int .u32 0, .int .u32 0, .int .u32 0, .int .u32 0, .bool false, .int .u32 0, .int .u32 0] 26)).alloc (.cells #[.int .i64 0, .int .i64 0, .int .i64 0, .int .u32 0, .int .u32 0, .slice none 0 0, .int .u64 0] 30)) (v12.heap.size + 1) 30 #[.int .i64 0, .int .i64 0, .int .i64 0, .int .u32 0, .int .u32 0, .slice none 0 0, .int .u64 0] from has_at (by simp)) (by omega) (prA (askX base train a))) (pdA (askP train a) none 0))), s10.trans (hbw.mono s10.size)⟩
    clear hbw
    have HWv13 := Lib.hid hv13
    clear s0 s1 s2 s3 s4 s5 s6 s7 s8 s9 s10
    clear hv13 HB14
    go_upto_region 17 with (first | (with_reducible refine wpList_store_rowTo (o := ⟨none, _, _, _, _, _⟩) rfl 26 _ _ rfl rfl (v12.heap.size) (prA (askX base train a)) rfl rfl 26 _ (HS0.out).raw (by kernel_rfl) (by kernel_rfl) (by kernel_rfl) ?_) | (with_reducible refine wpList_store_rowTo (o := ⟨none, _, _, _, _, _⟩) rfl 30 _ _ rfl rfl (v12.heap.size + 1) (pdA (askP train a) none 0) rfl rfl 30 _ (HS1.out).raw (by kernel_rfl) (by kernel_rfl) (by kernel_rfl) ?_))
    rw [HWv13.out]
    clear HWv13 HS0 HS1
    obtain ⟨s0, s1, s2, s3, s4, s5, s6, s7, s8, s9, s10, s11, s12⟩ := HB15.out
    have HL0 := Lib.hid s5
    have HK := Lib.hid (HN.out v13)
    clear s0 s1 s2 s3 s4 s5 s6 s7 s8 s9 s10 s11 s12
    go_wp2_with (first | (with_reducible refine wpList_load_row (o := ⟨some 136, _, _, _, _, _⟩) rfl 26 _ rfl (v4.heap.size + 1) rfl 26 (prA (upY other train c' d')) (0, 0) _ (HL0.out).raw Try.underlying26 rfl (by kernel_rfl) ?_))
    refine HK.out.mono ?_
    rintro e v14 ⟨rfl, hb1⟩
    obtain ⟨s0, s1, s2, s3, s4, s5, s6, s7, s8, s9, s10, s11, s12⟩ := HB15.out
    have hbn : Below v13.heap.size v13 v14 := hb1
    have HB16 : Hid (Has v14 (w.heap.size) 24 #[.int .u32 (base.a : Nat), .int .u32 (base.b : Nat), .int .u32 (base.c : Nat), .int .u32 (base.d : Nat)] ∧ Has v14 (w.heap.size + 1) 24 #[.int .u32 (other.a : Nat), .int .u32 (other.b : Nat), .int .u32 (other.c : Nat), .int .u32 (other.d : Nat)] ∧ Has v14 (v2.heap.size) 26 (prA (upX base train a b)) ∧ Has v14 (v2.heap.size + 1) 26 (prA (upY base train a b)) ∧ Has v14 (v4.heap.size) 26 (prA (upX other train c' d')) ∧ Has v14 (v4.heap.size + 1) 26 (prA (upY other train c' d')) ∧ Sl v14 1 A2 (datP (deriveF other c' d') false train d' xs).body.length c2 (u8s (datP (deriveF other c' d') false train d' xs).body) ∧ Has v14 (v6.heap.size) 30 (pdA (datP (deriveF other c' d') false train d' xs) A2 c2) ∧ Sl v14 1 A3 (datP (deriveF other c' d') true train d' xs).body.length c3 (u8s (datP (deriveF other c' d') true train d' xs).body) ∧ Has v14 (v8.heap.size) 30 (pdA (datP (deriveF other c' d') true train d' xs) A3 c3) ∧ Has v14 (v12.heap.size) 26 (prA (askX base train a)) ∧ Has v14 (v12.heap.size + 1) 30 (pdA (askP train a) none 0) ∧ Below w.heap.size w v14) := Lib.hid ⟨s0.under hbn s0.lt, s1.under hbn s1.lt, s2.under hbn s2.lt, s3.under hbn s3.lt, s4.under hbn s4.lt, s5.under hbn s5.lt, s6.under hbn, s7.under hbn s7.lt, s8.under hbn, s9.under hbn s9.lt, s10.under hbn s10.lt, s11.under hbn s11.lt, s12.trans (hbn.mono s12.size)⟩
    clear s0 s1 s2 s3 s4 s5 s6 s7 s8 s9 s10 s11 s12
    clear HK HB15 HL0 HN hb1
    clear hbn
    obtain ⟨s0, s1, s2, s3, s4, s5, s6, s7, s8, s9, s10, s11, s12⟩ := HB16.out
    have lt14_16 : v12.heap.size + 1 < v14.heap.size := s11.lt
    have le14_16 : w.heap.size ≤ v14.heap.size := s12.size
    have HS0 : Hid (Has ((v14.alloc (.cells #[.int .i64 0, .int .i64 0, .int .u32 0, .int .u32 0, .int .u32 0, .int .u32 0, .int .i64 0, .int .u32 0, .int .u32 0, .int .u32 0, .int .u32 0, .int .u32 0, .int .u32 0, .bool false, .int .u32 0, .int .u32 0] 26)).alloc (.cells #[.int .i64 0, .int .i64 0, .int .i64 0, .int .u32 0, .int .u32 0, .slice none 0 0, .int .u64 0] 30)) (v14.heap.size) 26 #[.int .i64 0, .int .i64 0, .int .u32 0, .int .u32 0, .int .u32 0, .int .u32 0, .int .i64 0, .int .u32 0, .int .u32 0, .int .u32 0, .int .u32 0, .int .u32 0, .int .u32 0, .bool false, .int .u32 0, .int .u32 0]) := Lib.hid (Has.beside (Has.made v14 26 #[.int .i64 0, .int .i64 0, .int .u32 0, .int .u32 0, .int .u32 0, .int .u32 0, .int .i64 0, .int .u32 0, .int .u32 0, .int .u32 0, .int .u32 0, .int .u32 0, .int .u32 0, .bool false, .int .u32 0, .int .u32 0]) (.cells #[.int .i64 0, .int .i64 0, .int .i64 0, .int .u32 0, .int .u32 0, .slice none 0 0, .int .u64 0] 30))
    have HS1 : Hid (Has (((v14.alloc (.cells #[.int .i64 0, .int .i64 0, .int .u32 0, .int .u32 0, .int .u32 0, .int .u32 0, .int .i64 0, .int .u32 0, .int .u32 0, .int .u32 0, .int .u32 0, .int .u32 0, .int .u32 0, .bool false, .int .u32 0, .int .u32 0] 26)).alloc (.cells #[.int .i64 0, .int .i64 0, .int .i64 0, .int .u32 0, .int .u32 0, .slice none 0 0, .int .u64 0] 30)).setRow (v14.heap.size) (prA (agaY other train c' d' c' d'))) (v14.heap.size + 1) 30 #[.int .i64 0, .int .i64 0, .int .i64 0, .int .u32 0, .int .u32 0, .slice none 0 0, .int .u64 0]) := Lib.hid (has_setRow_other7 (show Has ((v14.alloc (.cells #[.int .i64 0, .int .i64 0, .int .u32 0, .int .u32 0, .int .u32 0, .int .u32 0, .int .i64 0, .int .u32 0, .int .u32 0, .int .u32 0, .int .u32 0, .int .u32 0, .int .u32 0, .bool false, .int .u32 0, .int .u32 0] 26)).alloc (.cells #[.int .i64 0, .int .i64 0, .int .i64 0, .int .u32 0, .int .u32 0, .slice none 0 0, .int .u64 0] 30)) (v14.heap.size + 1) 30 #[.int .i64 0, .int .i64 0, .int .i64 0, .int .u32 0, .int .u32 0, .slice none 0 0, .int .u64 0] from has_at (by simp)) (by omega) (prA (agaY other train c' d' c' d')))
    obtain ⟨v15, hv15⟩ : ∃ v15, (((v14.alloc (.cells #[.int .i64 0, .int .i64 0, .int .u32 0, .int .u32 0, .int .u32 0, .int .u32 0, .int .i64 0, .int .u32 0, .int .u32 0, .int .u32 0, .int .u32 0, .int .u32 0, .int .u32 0, .bool false, .int .u32 0, .int .u32 0] 26)).alloc (.cells #[.int .i64 0, .int .i64 0, .int .i64 0, .int .u32 0, .int .u32 0, .slice none 0 0, .int .u64 0] 30)).setRow (v14.heap.size) (prA (agaY other train c' d' c' d'))).setRow (v14.heap.size + 1) (pdA (ansP other train c' d') none 0) = v15 := ⟨_, rfl⟩
    have hbw : Below v14.heap.size v14 v15 := by rw [← hv15]; exact (below_row (g := v14.heap.size + 1) (below_row (g := v14.heap.size) (Below.alloc (Below.alloc (Below.refl v14.heap.size v14) (Nat.le_refl _) (.cells #[.int .i64 0, .int .i64 0, .int .u32 0, .int .u32 0, .int .u32 0, .int .u32 0, .int .i64 0, .int .u32 0, .int .u32 0, .int .u32 0, .int .u32 0, .int .u32 0, .int .u32 0, .bool false, .int .u32 0, .int .u32 0] 26)) (by simp) (.cells #[.int .i64 0, .int .i64 0, .int .i64 0, .int .u32 0, .int .u32 0, .slice none 0 0, .int .u64 0] 30)) (by omega) (prA (agaY other train c' d' c' d'))) (by omega) (pdA (ansP other train c' d') none 0))
    have HB17 : Hid (Has v15 (w.heap.size) 24 #[.int .u32 (base.a : Nat), .int .u32 (base.b : Nat), .int .u32 (base.c : Nat), .int .u32 (base.d : Nat)] ∧ Has v15 (w.heap.size + 1) 24 #[.int .u32 (other.a : Nat), .int .u32 (other.b : Nat), .int .u32 (other.c : Nat), .int .u32 (other.d : Nat)] ∧ Has v15 (v2.heap.size) 26 (prA (upX base train a b)) ∧ Has v15 (v2.heap.size + 1) 26 (prA (upY base train a b)) ∧ Has v15 (v4.heap.size) 26 (prA (upX other train c' d')) ∧ Has v15 (v4.heap.size + 1) 26 (prA (upY other train c' d')) ∧ Sl v15 1 A2 (datP (deriveF other c' d') false train d' xs).body.length c2 (u8s (datP (deriveF other c' d') false train d' xs).body) ∧ Has v15 (v6.heap.size) 30 (pdA (datP (deriveF other c' d') false train d' xs) A2 c2) ∧ Sl v15 1 A3 (datP (deriveF other c' d') true train d' xs).body.length c3 (u8s (datP (deriveF other c' d') true train d' xs).body) ∧ Has v15 (v8.heap.size) 30 (pdA (datP (deriveF other c' d') true train d' xs) A3 c3) ∧ Has v15 (v12.heap.size) 26 (prA (askX base train a)) ∧ Has v15 (v12.heap.size + 1) 30 (pdA (askP train a) none 0) ∧ Has v15 (v14.heap.size) 26 (prA (agaY other train c' d' c' d')) ∧ Has v15 (v14.heap.size + 1) 30 (pdA (ansP other train c' d') none 0) ∧ Below w.heap.size w v15) := Lib.hid ⟨s0.under hbw s0.lt, s1.under hbw s1.lt, s2.under hbw s2.lt, s3.under hbw s3.lt, s4.under hbw s4.lt, s5.under hbw s5.lt, s6.under hbw, s7.under hbw s7.lt, s8.under hbw, s9.under hbw s9.lt, s10.under hbw s10.lt, s11.under hbw s11.lt, (by rw [← hv15]; exact (has_setRow_other7 (has_setRow7 (Has.beside (Has.made v14 26 #[.int .i64 0, .int .i64 0, .int .u32 0, .int .u32 0, .int .u32 0, .int .u32 0, .int .i64 0, .int .u32 0, .int .u32 0, .int .u32 0, .int .u32 0, .int .u32 0, .int .u32 0, .bool false, .int .u32 0, .int .u32 0]) (.cells #[.int .i64 0, .int .i64 0, .int .i64 0, .int .u32 0, .int .u32 0, .slice none 0 0, .int .u64 0] 30)) (prA (agaY other train c' d' c' d'))) (by omega) (pdA (ansP other train c' d') none 0))), (by rw [← hv15]; exact (has_setRow7 (has_setRow_other7 (show Has ((v14.alloc (.cells #[.int .i64 0, .int .i64 0, .int .u32 0, .int .u32 0, .int .u32 0, .int .u32 0, .int .i64 0, .int .u32 0, .int .u32 0, .int .u32 0, .int .u32 0, .int .u32 0, .int .u32 0, .bool false, .int .u32 0, .int .u32 0] 26)).alloc (.cells #[.int .i64 0, .int .i64 0, .int .i64 0, .int .u32 0, .int .u32 0, .slice none 0 0, .int .u64 0] 30)) (v14.heap.size + 1) 30 #[.int .i64 0, .int .i64 0, .int .i64 0, .int .u32 0, .int .u32 0, .slice none 0 0, .int .u64 0] from has_at (by simp)) (by omega) (prA (agaY other train c' d' c' d'))) (pdA (ansP other train c' d') none 0))), s12.trans (hbw.mono s12.size)⟩
    clear hbw
    have HWv15 := Lib.hid hv15
    clear s0 s1 s2 s3 s4 s5 s6 s7 s8 s9 s10 s11 s12
    clear hv15 HB16
    go_upto_region 18 with (first | (with_reducible refine wpList_store_rowTo (o := ⟨none, _, _, _, _, _⟩) rfl 26 _ _ rfl rfl (v14.heap.size) (prA (agaY other train c' d' c' d')) rfl rfl 26 _ (HS0.out).raw (by kernel_rfl) (by kernel_rfl) (by kernel_rfl) ?_) | (with_reducible refine wpList_store_rowTo (o := ⟨none, _, _, _, _, _⟩) rfl 30 _ _ rfl rfl (v14.heap.size + 1) (pdA (ansP other train c' d') none 0) rfl rfl 30 _ (HS1.out).raw (by kernel_rfl) (by kernel_rfl) (by kernel_rfl) ?_))
    rw [HWv15.out]
    clear HWv15 HS0 HS1
    obtain ⟨s0, s1, s2, s3, s4, s5, s6, s7, s8, s9, s10, s11, s12, s13, s14⟩ := HB17.out
    have HL0 := Lib.hid s10
    have HL1 := Lib.hid s13
    have HK := Lib.hid (HC.out v15)
    clear s0 s1 s2 s3 s4 s5 s6 s7 s8 s9 s10 s11 s12 s13 s14
    go_wp2_with (first | (with_reducible refine wpList_load_row (o := ⟨some 146, _, _, _, _, _⟩) rfl 26 _ rfl (v12.heap.size) rfl 26 (prA (askX base train a)) (0, 0) _ (HL0.out).raw Try.underlying26 rfl (by kernel_rfl) ?_) | (with_reducible refine wpList_load_row (o := ⟨some 147, _, _, _, _, _⟩) rfl 30 _ rfl (v14.heap.size + 1) rfl 30 (pdA (ansP other train c' d') none 0) (0, 0) _ (HL1.out).raw Try.underlying30 rfl (by kernel_rfl) ?_))
    refine HK.out.mono ?_
    rintro e v16 ⟨rfl, hb1⟩
    obtain ⟨s0, s1, s2, s3, s4, s5, s6, s7, s8, s9, s10, s11, s12, s13, s14⟩ := HB17.out
    have hbn : Below v15.heap.size v15 v16 := hb1
    have HB18 : Hid (Has v16 (w.heap.size) 24 #[.int .u32 (base.a : Nat), .int .u32 (base.b : Nat), .int .u32 (base.c : Nat), .int .u32 (base.d : Nat)] ∧ Has v16 (w.heap.size + 1) 24 #[.int .u32 (other.a : Nat), .int .u32 (other.b : Nat), .int .u32 (other.c : Nat), .int .u32 (other.d : Nat)] ∧ Has v16 (v2.heap.size) 26 (prA (upX base train a b)) ∧ Has v16 (v2.heap.size + 1) 26 (prA (upY base train a b)) ∧ Has v16 (v4.heap.size) 26 (prA (upX other train c' d')) ∧ Has v16 (v4.heap.size + 1) 26 (prA (upY other train c' d')) ∧ Sl v16 1 A2 (datP (deriveF other c' d') false train d' xs).body.length c2 (u8s (datP (deriveF other c' d') false train d' xs).body) ∧ Has v16 (v6.heap.size) 30 (pdA (datP (deriveF other c' d') false train d' xs) A2 c2) ∧ Sl v16 1 A3 (datP (deriveF other c' d') true train d' xs).body.length c3 (u8s (datP (deriveF other c' d') true train d' xs).body) ∧ Has v16 (v8.heap.size) 30 (pdA (datP (deriveF other c' d') true train d' xs) A3 c3) ∧ Has v16 (v12.heap.size) 26 (prA (askX base train a)) ∧ Has v16 (v12.heap.size + 1) 30 (pdA (askP train a) none 0) ∧ Has v16 (v14.heap.size) 26 (prA (agaY other train c' d' c' d')) ∧ Has v16 (v14.heap.size + 1) 30 (pdA (ansP other train c' d') none 0) ∧ Below w.heap.size w v16) := Lib.hid ⟨s0.under hbn s0.lt, s1.under hbn s1.lt, s2.under hbn s2.lt, s3.under hbn s3.lt, s4.under hbn s4.lt, s5.under hbn s5.lt, s6.under hbn, s7.under hbn s7.lt, s8.under hbn, s9.under hbn s9.lt, s10.under hbn s10.lt, s11.under hbn s11.lt, s12.under hbn s12.lt, s13.under hbn s13.lt, s14.trans (hbn.mono s14.size)⟩
    clear s0 s1 s2 s3 s4 s5 s6 s7 s8 s9 s10 s11 s12 s13 s14
    clear HK HB17 HL0 HL1 HC hb1
    clear hbn
    obtain ⟨s0, s1, s2, s3, s4, s5, s6, s7, s8, s9, s10, s11, s12, s13, s14⟩ := HB18.out
    have lt16_18 : v14.heap.size + 1 < v16.heap.size := s13.lt
    have le16_18 : w.heap.size ≤ v16.heap.size := s14.size
    have HS0 : Hid (Has ((v16.alloc (.cells #[.int .i64 0, .int .i64 0, .int .u32 0, .int .u32 0, .int .u32 0, .int .u32 0, .int .i64 0, .int .u32 0, .int .u32 0, .int .u32 0, .int .u32 0, .int .u32 0, .int .u32 0, .bool false, .int .u32 0, .int .u32 0] 26)).alloc (.cells #[.int .i64 0, .int .i64 0, .int .i64 0, .int .u32 0, .int .u32 0, .slice none 0 0, .int .u64 0] 30)) (v16.heap.size) 26 #[.int .i64 0, .int .i64 0, .int .u32 0, .int .u32 0, .int .u32 0, .int .u32 0, .int .i64 0, .int .u32 0, .int .u32 0, .int .u32 0, .int .u32 0, .int .u32 0, .int .u32 0, .bool false, .int .u32 0, .int .u32 0]) := Lib.hid (Has.beside (Has.made v16 26 #[.int .i64 0, .int .i64 0, .int .u32 0, .int .u32 0, .int .u32 0, .int .u32 0, .int .i64 0, .int .u32 0, .int .u32 0, .int .u32 0, .int .u32 0, .int .u32 0, .int .u32 0, .bool false, .int .u32 0, .int .u32 0]) (.cells #[.int .i64 0, .int .i64 0, .int .i64 0, .int .u32 0, .int .u32 0, .slice none 0 0, .int .u64 0] 30))
    have HS1 : Hid (Has (((v16.alloc (.cells #[.int .i64 0, .int .i64 0, .int .u32 0, .int .u32 0, .int .u32 0, .int .u32 0, .int .i64 0, .int .u32 0, .int .u32 0, .int .u32 0, .int .u32 0, .int .u32 0, .int .u32 0, .bool false, .int .u32 0, .int .u32 0] 26)).alloc (.cells #[.int .i64 0, .int .i64 0, .int .i64 0, .int .u32 0, .int .u32 0, .slice none 0 0, .int .u64 0] 30)).setRow (v16.heap.size) (prA (k1))) (v16.heap.size + 1) 30 #[.int .i64 0, .int .i64 0, .int .i64 0, .int .u32 0, .int .u32 0, .slice none 0 0, .int .u64 0]) := Lib.hid (has_setRow_other7 (show Has ((v16.alloc (.cells #[.int .i64 0, .int .i64 0, .int .u32 0, .int .u32 0, .int .u32 0, .int .u32 0, .int .i64 0, .int .u32 0, .int .u32 0, .int .u32 0, .int .u32 0, .int .u32 0, .int .u32 0, .bool false, .int .u32 0, .int .u32 0] 26)).alloc (.cells #[.int .i64 0, .int .i64 0, .int .i64 0, .int .u32 0, .int .u32 0, .slice none 0 0, .int .u64 0] 30)) (v16.heap.size + 1) 30 #[.int .i64 0, .int .i64 0, .int .i64 0, .int .u32 0, .int .u32 0, .slice none 0 0, .int .u64 0] from has_at (by simp)) (by omega) (prA (k1)))
    obtain ⟨v17, hv17⟩ : ∃ v17, (((v16.alloc (.cells #[.int .i64 0, .int .i64 0, .int .u32 0, .int .u32 0, .int .u32 0, .int .u32 0, .int .i64 0, .int .u32 0, .int .u32 0, .int .u32 0, .int .u32 0, .int .u32 0, .int .u32 0, .bool false, .int .u32 0, .int .u32 0] 26)).alloc (.cells #[.int .i64 0, .int .i64 0, .int .i64 0, .int .u32 0, .int .u32 0, .slice none 0 0, .int .u64 0] 30)).setRow (v16.heap.size) (prA (k1))).setRow (v16.heap.size + 1) (pdA (k2) none 0) = v17 := ⟨_, rfl⟩
    have hbw : Below v16.heap.size v16 v17 := by rw [← hv17]; exact (below_row (g := v16.heap.size + 1) (below_row (g := v16.heap.size) (Below.alloc (Below.alloc (Below.refl v16.heap.size v16) (Nat.le_refl _) (.cells #[.int .i64 0, .int .i64 0, .int .u32 0, .int .u32 0, .int .u32 0, .int .u32 0, .int .i64 0, .int .u32 0, .int .u32 0, .int .u32 0, .int .u32 0, .int .u32 0, .int .u32 0, .bool false, .int .u32 0, .int .u32 0] 26)) (by simp) (.cells #[.int .i64 0, .int .i64 0, .int .i64 0, .int .u32 0, .int .u32 0, .slice none 0 0, .int .u64 0] 30)) (by omega) (prA (k1))) (by omega) (pdA (k2) none 0))
    have HB19 : Hid (Has v17 (w.heap.size) 24 #[.int .u32 (base.a : Nat), .int .u32 (base.b : Nat), .int .u32 (base.c : Nat), .int .u32 (base.d : Nat)] ∧ Has v17 (w.heap.size + 1) 24 #[.int .u32 (other.a : Nat), .int .u32 (other.b : Nat), .int .u32 (other.c : Nat), .int .u32 (other.d : Nat)] ∧ Has v17 (v2.heap.size) 26 (prA (upX base train a b)) ∧ Has v17 (v2.heap.size + 1) 26 (prA (upY base train a b)) ∧ Has v17 (v4.heap.size) 26 (prA (upX other train c' d')) ∧ Has v17 (v4.heap.size + 1) 26 (prA (upY other train c' d')) ∧ Sl v17 1 A2 (datP (deriveF other c' d') false train d' xs).body.length c2 (u8s (datP (deriveF other c' d') false train d' xs).body) ∧ Has v17 (v6.heap.size) 30 (pdA (datP (deriveF other c' d') false train d' xs) A2 c2) ∧ Sl v17 1 A3 (datP (deriveF other c' d') true train d' xs).body.length c3 (u8s (datP (deriveF other c' d') true train d' xs).body) ∧ Has v17 (v8.heap.size) 30 (pdA (datP (deriveF other c' d') true train d' xs) A3 c3) ∧ Has v17 (v12.heap.size) 26 (prA (askX base train a)) ∧ Has v17 (v12.heap.size + 1) 30 (pdA (askP train a) none 0) ∧ Has v17 (v14.heap.size) 26 (prA (agaY other train c' d' c' d')) ∧ Has v17 (v14.heap.size + 1) 30 (pdA (ansP other train c' d') none 0) ∧ Has v17 (v16.heap.size) 26 (prA (k1)) ∧ Has v17 (v16.heap.size + 1) 30 (pdA (k2) none 0) ∧ Below w.heap.size w v17) := Lib.hid ⟨s0.under hbw s0.lt, s1.under hbw s1.lt, s2.under hbw s2.lt, s3.under hbw s3.lt, s4.under hbw s4.lt, s5.under hbw s5.lt, s6.under hbw, s7.under hbw s7.lt, s8.under hbw, s9.under hbw s9.lt, s10.under hbw s10.lt, s11.under hbw s11.lt, s12.under hbw s12.lt, s13.under hbw s13.lt, (by rw [← hv17]; exact (has_setRow_other7 (has_setRow7 (Has.beside (Has.made v16 26 #[.int .i64 0, .int .i64 0, .int .u32 0, .int .u32 0, .int .u32 0, .int .u32 0, .int .i64 0, .int .u32 0, .int .u32 0, .int .u32 0, .int .u32 0, .int .u32 0, .int .u32 0, .bool false, .int .u32 0, .int .u32 0]) (.cells #[.int .i64 0, .int .i64 0, .int .i64 0, .int .u32 0, .int .u32 0, .slice none 0 0, .int .u64 0] 30)) (prA (k1))) (by omega) (pdA (k2) none 0))), (by rw [← hv17]; exact (has_setRow7 (has_setRow_other7 (show Has ((v16.alloc (.cells #[.int .i64 0, .int .i64 0, .int .u32 0, .int .u32 0, .int .u32 0, .int .u32 0, .int .i64 0, .int .u32 0, .int .u32 0, .int .u32 0, .int .u32 0, .int .u32 0, .int .u32 0, .bool false, .int .u32 0, .int .u32 0] 26)).alloc (.cells #[.int .i64 0, .int .i64 0, .int .i64 0, .int .u32 0, .int .u32 0, .slice none 0 0, .int .u64 0] 30)) (v16.heap.size + 1) 30 #[.int .i64 0, .int .i64 0, .int .i64 0, .int .u32 0, .int .u32 0, .slice none 0 0, .int .u64 0] from has_at (by simp)) (by omega) (prA (k1))) (pdA (k2) none 0))), s14.trans (hbw.mono s14.size)⟩
    clear hbw
    have HWv17 := Lib.hid hv17
    clear s0 s1 s2 s3 s4 s5 s6 s7 s8 s9 s10 s11 s12 s13 s14
    clear hv17 HB18
    go_upto_region 19 with (first | (with_reducible refine wpList_store_rowTo (o := ⟨none, _, _, _, _, _⟩) rfl 26 _ _ rfl rfl (v16.heap.size) (prA (k1)) rfl rfl 26 _ (HS0.out).raw (by kernel_rfl) (by kernel_rfl) (by kernel_rfl) ?_) | (with_reducible refine wpList_store_rowTo (o := ⟨none, _, _, _, _, _⟩) rfl 30 _ _ rfl rfl (v16.heap.size + 1) (pdA (k2) none 0) rfl rfl 30 _ (HS1.out).raw (by kernel_rfl) (by kernel_rfl) (by kernel_rfl) ?_))
    rw [HWv17.out]
    clear HWv17 HS0 HS1
    obtain ⟨s0, s1, s2, s3, s4, s5, s6, s7, s8, s9, s10, s11, s12, s13, s14, s15, s16⟩ := HB19.out
    have HBF := Lib.hid s16
    clear s0 s1 s2 s3 s4 s5 s6 s7 s8 s9 s10 s11 s12 s13 s14 s15 s16
    clear HB19 HSL HX8
    rcases HGQ.out with hq | ⟨hq, rfl⟩
    all_goals
      clear HGQ
      go_wp2
      go_ret
      exact ⟨by simp, HBF.out⟩
end Go.Proofs.Ytekcnmimfhiblaa
