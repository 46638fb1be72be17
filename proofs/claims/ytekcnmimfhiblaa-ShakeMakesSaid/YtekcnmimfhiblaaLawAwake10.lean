/-
  linesidelaw10: awake.
-/
import Derived.Test.YtekcnmimfhiblaaShBoth
import Derived.Test.YtekcnmimfhiblaaKeyEq9
import Derived.Deep.DeepCutAuto
namespace Go.Proofs.Ytekcnmimfhiblaa
open Go.RowKit
open Go.Great

/-- Where a slice that holds cells lies. -/
theorem sl_block9 {W : World} {s n c : Nat} {A : Option Addr} {vs : List Value} (h : Sl W s A n c vs) (h0 : 0 < vs.length) : ∀ a, A = some a → a.block < W.heap.size := fun a ha => by
  have h1 := h.2.2 a ha 0 _ (List.getElem?_eq_getElem h0)
  have h2 := cell_block h1
  rwa [add_block7] at h2
def k10 : Key4 := ⟨1, 2, 3, 4⟩
theorem k10_ok : k10.ok := ⟨by decide, by decide, by decide, by decide⟩
theorem sl_made (W : World) (l : List Nat) (n : Nat) (hn : l.length = n) : Sl (W.alloc (.cells (u8s l).toArray 5)) 1 (some ⟨W.heap.size, 0, none⟩) n n (u8s l) := by
  refine ⟨by rw [u8s_length, hn]; simp, (fun e => by cases e), fun ad ha j u hu => ?_⟩
  cases ha
  rw [WideShapes.add_plain, (Has.made W _ _).cell, Nat.zero_add]
  simpa using hu
theorem datP_ok {key : Key4} (hk : key.ok) (s : Bool) (train : Int) {b : Nat} (hb : b < 4294967296) {body : List Nat} (h8 : bytes8 body) : (datP key s train b body).ok :=
  seal_ok hk ⟨show 0 < 4294967296 by decide, hb, h8, show 0 < 18446744073709551616 by decide⟩
theorem endP_ok {key : Key4} (hk : key.ok) (s : Bool) (train : Int) {b y : Nat} (hb : b < 4294967296) (hy : y < 256) : (endP key s train b y).ok :=
  seal_ok hk ⟨show 0 < 4294967296 by decide, hb, fun x hx => (by simp at hx; omega), show 0 < 18446744073709551616 by decide⟩
theorem endP_body (key : Key4) (s : Bool) (train : Int) (b y : Nat) : (endP key s train b y).body = [y] := seal_bd _ _
theorem datP_body (key : Key4) (s : Bool) (train : Int) (b : Nat) (body : List Nat) : (datP key s train b body).body = body := seal_bd _ _

set_option maxRecDepth 100000 in
set_option maxHeartbeats 4000000 in
theorem awake10_any (w : World) : Calls Try.prog 9 #[] w fun e w' => e = .returned (.bool true) ∧ Below w.heap.size w w' := by
  have h7 : (7 : Nat) < 4294967296 := by decide
  have h9 : (9 : Nat) < 4294967296 := by decide
  have hb2 := fun W => both_up k10 k10_ok 5 7 9 h7 h9 (by decide) (by decide) W
  have h12 : bytes8 [1, 2] := fun x hx => (by simp at hx; omega)
  have hD := fun W => osh_data (upX k10 5 7 9) (some ⟨World.heap W |>.size, 0, none⟩) 2 [1, 2] (upE_ok k10_ok false 5 h7 h9) h12 (by decide) (W.alloc (.cells #[.int .u8 1, .int .u8 2] 5)) (sl_made W [1, 2] 2 rfl)
  rw [show shData (upX k10 5 7 9) [1, 2] = (datP (deriveF k10 7 9) false 5 9 [1, 2], 0) from data_up (by decide) (by decide) false (by decide) (by decide)] at hD
  have hT := fun A c W hs => osh_take (upY k10 5 7 9) (datP (deriveF k10 7 9) false 5 9 [1, 2]) A c (upE_ok k10_ok true 5 h7 h9) (datP_ok (deriveF_ok k10_ok h7 h9) false 5 h9 h12) (by rw [datP_body]; decide) W hs
  rw [show shTake (upY k10 5 7 9) (datP (deriveF k10 7 9) false 5 9 [1, 2]) = ([1, 2], 0) from take_up (s := false) (by decide) (by decide) (by decide) (by decide)] at hT
  unfold ShPostD at hD
  unfold ShPostT at hT
  unfold keyV keyA at hb2
  simp only [k10, Int.cast_ofNat_Int] at hb2
  change ∀ W, Calls Try.prog 27 #[.agg #[.int .u32 1, .int .u32 2, .int .u32 3, .int .u32 4], .int .i64 5, .int .u32 7, .int .u32 9] W fun e w' => e = .returned (.tuple #[prV (upX k10 5 7 9), prV (upY k10 5 7 9), .bool true]) ∧ Below W.heap.size W w' at hb2
  have HBO := Lib.hid hb2; have HDA := Lib.hid hD; have HTA := Lib.hid hT
  clear hb2 hD hT h7 h9 h12
  unfold prV pdV at *
  go_enter Try.func9, Try.ntmps9
  have HB0 : Hid (Below w.heap.size w w) := Lib.hid (Below.refl _ _)
  obtain s0 := HB0.out
  have HK := Lib.hid (HBO.out w)
  clear s0
  go_wp2_with fail
  refine HK.out.mono ?_
  rintro e v1 ⟨rfl, hb1⟩
  obtain s0 := HB0.out
  have hbn : Below w.heap.size w v1 := hb1
  have HB1 : Hid (Below w.heap.size w v1) := Lib.hid (s0.trans (hbn.mono s0.size))
  clear s0
  clear HK HB0 HBO hb1
  clear hbn
  obtain s0 := HB1.out
  have le1_1 : w.heap.size ≤ v1.heap.size := s0.size
  have HS0 : Hid (Has ((v1.alloc (.cells #[.int .i64 0, .int .i64 0, .int .u32 0, .int .u32 0, .int .u32 0, .int .u32 0, .int .i64 0, .int .u32 0, .int .u32 0, .int .u32 0, .int .u32 0, .int .u32 0, .int .u32 0, .bool false, .int .u32 0, .int .u32 0] 26)).alloc (.cells #[.int .i64 0, .int .i64 0, .int .u32 0, .int .u32 0, .int .u32 0, .int .u32 0, .int .i64 0, .int .u32 0, .int .u32 0, .int .u32 0, .int .u32 0, .int .u32 0, .int .u32 0, .bool false, .int .u32 0, .int .u32 0] 26)) (v1.heap.size) 26 #[.int .i64 0, .int .i64 0, .int .u32 0, .int .u32 0, .int .u32 0, .int .u32 0, .int .i64 0, .int .u32 0, .int .u32 0, .int .u32 0, .int .u32 0, .int .u32 0, .int .u32 0, .bool false, .int .u32 0, .int .u32 0]) := Lib.hid (Has.beside (Has.made v1 26 #[.int .i64 0, .int .i64 0, .int .u32 0, .int .u32 0, .int .u32 0, .int .u32 0, .int .i64 0, .int .u32 0, .int .u32 0, .int .u32 0, .int .u32 0, .int .u32 0, .int .u32 0, .bool false, .int .u32 0, .int .u32 0]) (.cells #[.int .i64 0, .int .i64 0, .int .u32 0, .int .u32 0, .int .u32 0, .int .u32 0, .int .i64 0, .int .u32 0, .int .u32 0, .int .u32 0, .int .u32 0, .int .u32 0, .int .u32 0, .bool false, .int .u32 0, .int .u32 0] 26))
  have HS1 : Hid (Has (((v1.alloc (.cells #[.int .i64 0, .int .i64 0, .int .u32 0, .int .u32 0, .int .u32 0, .int .u32 0, .int .i64 0, .int .u32 0, .int .u32 0, .int .u32 0, .int .u32 0, .int .u32 0, .int .u32 0, .bool false, .int .u32 0, .int .u32 0] 26)).alloc (.cells #[.int .i64 0, .int .i64 0, .int .u32 0, .int .u32 0, .int .u32 0, .int .u32 0, .int .i64 0, .int .u32 0, .int .u32 0, .int .u32 0, .int .u32 0, .int .u32 0, .int .u32 0, .bool false, .int .u32 0, .int .u32 0] 26)).setRow (v1.heap.size) (prA (upX k10 5 7 9))) (v1.heap.size + 1) 26 #[.int .i64 0, .int .i64 0, .int .u32 0, .int .u32 0, .int .u32 0, .int .u32 0, .int .i64 0, .int .u32 0, .int .u32 0, .int .u32 0, .int .u32 0, .int .u32 0, .int .u32 0, .bool false, .int .u32 0, .int .u32 0]) := Lib.hid (has_setRow_other7 (show Has ((v1.alloc (.cells #[.int .i64 0, .int .i64 0, .int .u32 0, .int .u32 0, .int .u32 0, .int .u32 0, .int .i64 0, .int .u32 0, .int .u32 0, .int .u32 0, .int .u32 0, .int .u32 0, .int .u32 0, .bool false, .int .u32 0, .int .u32 0] 26)).alloc (.cells #[.int .i64 0, .int .i64 0, .int .u32 0, .int .u32 0, .int .u32 0, .int .u32 0, .int .i64 0, .int .u32 0, .int .u32 0, .int .u32 0, .int .u32 0, .int .u32 0, .int .u32 0, .bool false, .int .u32 0, .int .u32 0] 26)) (v1.heap.size + 1) 26 #[.int .i64 0, .int .i64 0, .int .u32 0, .int .u32 0, .int .u32 0, .int .u32 0, .int .i64 0, .int .u32 0, .int .u32 0, .int .u32 0, .int .u32 0, .int .u32 0, .int .u32 0, .bool false, .int .u32 0, .int .u32 0] from has_at (by simp)) (by omega) (prA (upX k10 5 7 9)))
  obtain ⟨v2, hv2⟩ : ∃ v2, (((v1.alloc (.cells #[.int .i64 0, .int .i64 0, .int .u32 0, .int .u32 0, .int .u32 0, .int .u32 0, .int .i64 0, .int .u32 0, .int .u32 0, .int .u32 0, .int .u32 0, .int .u32 0, .int .u32 0, .bool false, .int .u32 0, .int .u32 0] 26)).alloc (.cells #[.int .i64 0, .int .i64 0, .int .u32 0, .int .u32 0, .int .u32 0, .int .u32 0, .int .i64 0, .int .u32 0, .int .u32 0, .int .u32 0, .int .u32 0, .int .u32 0, .int .u32 0, .bool false, .int .u32 0, .int .u32 0] 26)).setRow (v1.heap.size) (prA (upX k10 5 7 9))).setRow (v1.heap.size + 1) (prA (upY k10 5 7 9)) = v2 := ⟨_, rfl⟩
  have hbw : Below v1.heap.size v1 v2 := by rw [← hv2]; exact (below_row (g := v1.heap.size + 1) (below_row (g := v1.heap.size) (Below.alloc (Below.alloc (Below.refl v1.heap.size v1) (Nat.le_refl _) (.cells #[.int .i64 0, .int .i64 0, .int .u32 0, .int .u32 0, .int .u32 0, .int .u32 0, .int .i64 0, .int .u32 0, .int .u32 0, .int .u32 0, .int .u32 0, .int .u32 0, .int .u32 0, .bool false, .int .u32 0, .int .u32 0] 26)) (by simp) (.cells #[.int .i64 0, .int .i64 0, .int .u32 0, .int .u32 0, .int .u32 0, .int .u32 0, .int .i64 0, .int .u32 0, .int .u32 0, .int .u32 0, .int .u32 0, .int .u32 0, .int .u32 0, .bool false, .int .u32 0, .int .u32 0] 26)) (by omega) (prA (upX k10 5 7 9))) (by omega) (prA (upY k10 5 7 9)))
  have HB2 : Hid (Has v2 (v1.heap.size) 26 (prA (upX k10 5 7 9)) ∧ Has v2 (v1.heap.size + 1) 26 (prA (upY k10 5 7 9)) ∧ Below w.heap.size w v2) := Lib.hid ⟨(by rw [← hv2]; exact (has_setRow_other7 (has_setRow7 (Has.beside (Has.made v1 26 #[.int .i64 0, .int .i64 0, .int .u32 0, .int .u32 0, .int .u32 0, .int .u32 0, .int .i64 0, .int .u32 0, .int .u32 0, .int .u32 0, .int .u32 0, .int .u32 0, .int .u32 0, .bool false, .int .u32 0, .int .u32 0]) (.cells #[.int .i64 0, .int .i64 0, .int .u32 0, .int .u32 0, .int .u32 0, .int .u32 0, .int .i64 0, .int .u32 0, .int .u32 0, .int .u32 0, .int .u32 0, .int .u32 0, .int .u32 0, .bool false, .int .u32 0, .int .u32 0] 26)) (prA (upX k10 5 7 9))) (by omega) (prA (upY k10 5 7 9)))), (by rw [← hv2]; exact (has_setRow7 (has_setRow_other7 (show Has ((v1.alloc (.cells #[.int .i64 0, .int .i64 0, .int .u32 0, .int .u32 0, .int .u32 0, .int .u32 0, .int .i64 0, .int .u32 0, .int .u32 0, .int .u32 0, .int .u32 0, .int .u32 0, .int .u32 0, .bool false, .int .u32 0, .int .u32 0] 26)).alloc (.cells #[.int .i64 0, .int .i64 0, .int .u32 0, .int .u32 0, .int .u32 0, .int .u32 0, .int .i64 0, .int .u32 0, .int .u32 0, .int .u32 0, .int .u32 0, .int .u32 0, .int .u32 0, .bool false, .int .u32 0, .int .u32 0] 26)) (v1.heap.size + 1) 26 #[.int .i64 0, .int .i64 0, .int .u32 0, .int .u32 0, .int .u32 0, .int .u32 0, .int .i64 0, .int .u32 0, .int .u32 0, .int .u32 0, .int .u32 0, .int .u32 0, .int .u32 0, .bool false, .int .u32 0, .int .u32 0] from has_at (by simp)) (by omega) (prA (upX k10 5 7 9))) (prA (upY k10 5 7 9)))), s0.trans (hbw.mono s0.size)⟩
  clear hbw
  have HWv2 := Lib.hid hv2
  clear s0
  clear hv2 HB1
  go_upto_region 2 with (first | (with_reducible refine wpList_store_rowTo (o := ⟨none, _, _, _, _, _⟩) rfl 26 _ _ rfl rfl (v1.heap.size) (prA (upX k10 5 7 9)) rfl rfl 26 _ (HS0.out).raw (by kernel_rfl) (by kernel_rfl) (by kernel_rfl) ?_) | (with_reducible refine wpList_store_rowTo (o := ⟨none, _, _, _, _, _⟩) rfl 26 _ _ rfl rfl (v1.heap.size + 1) (prA (upY k10 5 7 9)) rfl rfl 26 _ (HS1.out).raw (by kernel_rfl) (by kernel_rfl) (by kernel_rfl) ?_))
  rw [HWv2.out]
  clear HWv2 HS0 HS1
  obtain ⟨s0, s1, s2⟩ := HB2.out
  have HL0 := Lib.hid s0
  have HK := Lib.hid (HDA.out v2)
  clear s0 s1 s2
  go_wp2_with (first | (with_reducible refine wpList_load_row (o := ⟨some 15, _, _, _, _, _⟩) rfl 26 _ rfl (v1.heap.size) rfl 26 (prA (upX k10 5 7 9)) (0, 0) _ (HL0.out).raw Try.underlying26 rfl (by kernel_rfl) ?_))
  refine HK.out.mono ?_
  rintro e v3 ⟨A2, c2, rfl, hs2, _, hb1⟩
  obtain ⟨s0, s1, s2⟩ := HB2.out
  have hbn : Below v2.heap.size v2 v3 := ((Below.refl v2.heap.size v2).alloc (Nat.le_refl _) (.cells #[.int .u8 1, .int .u8 2] 5)).trans (hb1.out.mono (by simp))
  have HB3 : Hid (Has v3 (v1.heap.size) 26 (prA (upX k10 5 7 9)) ∧ Has v3 (v1.heap.size + 1) 26 (prA (upY k10 5 7 9)) ∧ Below w.heap.size w v3) := Lib.hid ⟨s0.under hbn s0.lt, s1.under hbn s1.lt, s2.trans (hbn.mono s2.size)⟩
  clear s0 s1 s2
  clear HK HB2 HL0 HDA hb1
  clear hbn
  obtain ⟨s0, s1, s2⟩ := HB3.out
  have HB4 : Hid (Has v3 (v1.heap.size) 26 (prA (upX k10 5 7 9)) ∧ Has v3 (v1.heap.size + 1) 26 (prA (upY k10 5 7 9)) ∧ Sl v3 1 A2 (datP (deriveF k10 7 9) false 5 9 [1, 2]).body.length c2 (u8s (datP (deriveF k10 7 9) false 5 9 [1, 2]).body) ∧ Below w.heap.size w v3) := Lib.hid ⟨s0, s1, hs2.out, s2⟩
  clear s0 s1 s2
  clear HB3
  clear hs2
  obtain ⟨s0, s1, s2, s3⟩ := HB4.out
  have lt3_4 : v1.heap.size + 1 < v3.heap.size := s1.lt
  have le3_4 : w.heap.size ≤ v3.heap.size := s3.size
  have HS0 : Hid (Has (v3.alloc (.cells #[.int .i64 0, .int .i64 0, .int .i64 0, .int .u32 0, .int .u32 0, .slice none 0 0, .int .u64 0] 30)) (v3.heap.size) 30 #[.int .i64 0, .int .i64 0, .int .i64 0, .int .u32 0, .int .u32 0, .slice none 0 0, .int .u64 0]) := Lib.hid (Has.made v3 30 #[.int .i64 0, .int .i64 0, .int .i64 0, .int .u32 0, .int .u32 0, .slice none 0 0, .int .u64 0])
  obtain ⟨v4, hv4⟩ : ∃ v4, (v3.alloc (.cells #[.int .i64 0, .int .i64 0, .int .i64 0, .int .u32 0, .int .u32 0, .slice none 0 0, .int .u64 0] 30)).setRow (v3.heap.size) (pdA (datP (deriveF k10 7 9) false 5 9 [1, 2]) A2 c2) = v4 := ⟨_, rfl⟩
  have hbw : Below v3.heap.size v3 v4 := by rw [← hv4]; exact (below_row (g := v3.heap.size) (Below.alloc (Below.refl v3.heap.size v3) (Nat.le_refl _) (.cells #[.int .i64 0, .int .i64 0, .int .i64 0, .int .u32 0, .int .u32 0, .slice none 0 0, .int .u64 0] 30)) (by omega) (pdA (datP (deriveF k10 7 9) false 5 9 [1, 2]) A2 c2))
  have HB5 : Hid (Has v4 (v1.heap.size) 26 (prA (upX k10 5 7 9)) ∧ Has v4 (v1.heap.size + 1) 26 (prA (upY k10 5 7 9)) ∧ Sl v4 1 A2 (datP (deriveF k10 7 9) false 5 9 [1, 2]).body.length c2 (u8s (datP (deriveF k10 7 9) false 5 9 [1, 2]).body) ∧ Has v4 (v3.heap.size) 30 (pdA (datP (deriveF k10 7 9) false 5 9 [1, 2]) A2 c2) ∧ Below w.heap.size w v4) := Lib.hid ⟨s0.under hbw s0.lt, s1.under hbw s1.lt, s2.under hbw, (by rw [← hv4]; exact (has_setRow7 (Has.made v3 30 #[.int .i64 0, .int .i64 0, .int .i64 0, .int .u32 0, .int .u32 0, .slice none 0 0, .int .u64 0]) (pdA (datP (deriveF k10 7 9) false 5 9 [1, 2]) A2 c2))), s3.trans (hbw.mono s3.size)⟩
  clear hbw
  have HWv4 := Lib.hid hv4
  clear s0 s1 s2 s3
  clear hv4 HB4
  go_upto_region 3 with (first | (with_reducible refine wpList_store_rowTo (o := ⟨none, _, _, _, _, _⟩) rfl 30 _ _ rfl rfl (v3.heap.size) (pdA (datP (deriveF k10 7 9) false 5 9 [1, 2]) A2 c2) rfl rfl 30 _ (HS0.out).raw (by kernel_rfl) (by kernel_rfl) (by kernel_rfl) ?_))
  rw [HWv4.out]
  clear HWv4 HS0
  obtain ⟨s0, s1, s2, s3, s4⟩ := HB5.out
  have HL0 := Lib.hid s1
  have HL1 := Lib.hid s3
  have HK := Lib.hid (HTA.out A2 c2 v4 s2)
  clear s0 s1 s2 s3 s4
  go_wp2_with (first | (with_reducible refine wpList_load_row (o := ⟨some 21, _, _, _, _, _⟩) rfl 26 _ rfl (v1.heap.size + 1) rfl 26 (prA (upY k10 5 7 9)) (0, 0) _ (HL0.out).raw Try.underlying26 rfl (by kernel_rfl) ?_) | (with_reducible refine wpList_load_row (o := ⟨some 22, _, _, _, _, _⟩) rfl 30 _ rfl (v3.heap.size) rfl 30 (pdA (datP (deriveF k10 7 9) false 5 9 [1, 2]) A2 c2) (0, 0) _ (HL1.out).raw Try.underlying30 rfl (by kernel_rfl) ?_))
  refine HK.out.mono ?_
  rintro e v5 ⟨A3, c3, rfl, hs3, _, hb1⟩
  obtain ⟨s0, s1, s2, s3, s4⟩ := HB5.out
  have hbn : Below v4.heap.size v4 v5 := hb1.out
  have HB6 : Hid (Has v5 (v1.heap.size) 26 (prA (upX k10 5 7 9)) ∧ Has v5 (v1.heap.size + 1) 26 (prA (upY k10 5 7 9)) ∧ Sl v5 1 A2 (datP (deriveF k10 7 9) false 5 9 [1, 2]).body.length c2 (u8s (datP (deriveF k10 7 9) false 5 9 [1, 2]).body) ∧ Has v5 (v3.heap.size) 30 (pdA (datP (deriveF k10 7 9) false 5 9 [1, 2]) A2 c2) ∧ Below w.heap.size w v5) := Lib.hid ⟨s0.under hbn s0.lt, s1.under hbn s1.lt, s2.under hbn, s3.under hbn s3.lt, s4.trans (hbn.mono s4.size)⟩
  clear s0 s1 s2 s3 s4
  clear HK HB5 HL0 HL1 HTA hb1
  clear hbn
  simp only [List.length_cons, List.length_nil, Nat.zero_add, Nat.reduceAdd] at hs3 ⊢
  have hcv := conv8 A3 c3 [1, 2] v5 (sl_at8 hs3.out)
  simp only [List.length_cons, List.length_nil, Nat.zero_add, Nat.reduceAdd] at hcv
  have e1 : ((str8 [1, 2]).toList == [1, 2]) = true := by rw [ByteArray.toList_eq]; rfl
  generalize str8 [1, 2] = S1 at *
  obtain ⟨s0, s1, s2, s3, s4⟩ := HB6.out
  have c6 : v5.cell? ⟨v1.heap.size, 6, none⟩ = some (.int .i64 2) := s0.cell 6
  have c7 : v5.cell? ⟨v1.heap.size, 7, none⟩ = some (.int .u32 7) := s0.cell 7
  have c8 : v5.cell? ⟨v1.heap.size, 8, none⟩ = some (.int .u32 9) := s0.cell 8
  have c9 : v5.cell? ⟨v1.heap.size, 9, none⟩ = some (.int .u32 ((deriveF k10 7 9).a : Nat)) := s0.cell 9
  have c10 : v5.cell? ⟨v1.heap.size, 10, none⟩ = some (.int .u32 ((deriveF k10 7 9).b : Nat)) := s0.cell 10
  have c11 : v5.cell? ⟨v1.heap.size, 11, none⟩ = some (.int .u32 ((deriveF k10 7 9).c : Nat)) := s0.cell 11
  have c12 : v5.cell? ⟨v1.heap.size, 12, none⟩ = some (.int .u32 ((deriveF k10 7 9).d : Nat)) := s0.cell 12
  have d6 : v5.cell? ⟨v1.heap.size + 1, 6, none⟩ = some (.int .i64 2) := s1.cell 6
  have d7 : v5.cell? ⟨v1.heap.size + 1, 7, none⟩ = some (.int .u32 7) := s1.cell 7
  have d8 : v5.cell? ⟨v1.heap.size + 1, 8, none⟩ = some (.int .u32 9) := s1.cell 8
  have d9 : v5.cell? ⟨v1.heap.size + 1, 9, none⟩ = some (.int .u32 ((deriveF k10 7 9).a : Nat)) := s1.cell 9
  have d10 : v5.cell? ⟨v1.heap.size + 1, 10, none⟩ = some (.int .u32 ((deriveF k10 7 9).b : Nat)) := s1.cell 10
  have d11 : v5.cell? ⟨v1.heap.size + 1, 11, none⟩ = some (.int .u32 ((deriveF k10 7 9).c : Nat)) := s1.cell 11
  have d12 : v5.cell? ⟨v1.heap.size + 1, 12, none⟩ = some (.int .u32 ((deriveF k10 7 9).d : Nat)) := s1.cell 12
  have HBF := Lib.hid s4
  clear s0 s1 s2 s3 s4
  have ek := eq_keys9 (deriveF k10 7 9) (deriveF k10 7 9) v5
  rw [decide_eq_true rfl] at ek
  unfold keyA at ek
  generalize deriveF k10 7 9 = dk at *
  clear hs3 HB6
  go_wp2
  go_ret
  exact ⟨rfl, HBF.out⟩
end Go.Proofs.Ytekcnmimfhiblaa
