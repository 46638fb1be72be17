/-
  linesideref06.Decode, by contract.
-/
import Derived.Test.YtamnhnleipnhdaaDoorMgM
namespace Go.Proofs.YtamnhnleipnhdaaDoor
open Go.RowKit
open BitsM
open Go.Great

theorem any_drop {S : List Bool} {a i : Nat} (ha : a ≤ i) (hi : i < S.length) (h : S[i] = true) : (S.drop a).any (fun b => b) = true :=
  List.any_eq_true.2 ⟨S[i], List.mem_of_getElem? (i := i - a) (by rw [List.getElem?_drop, show a + (i - a) = i by omega, List.getElem?_eq_getElem hi]), h⟩
theorem none_drop {S : List Bool} {a : Nat} (h : ∀ k, a ≤ k → k < S.length → S.getD k false = false) : (S.drop a).any (fun b => b) = false := by
  rw [List.any_eq_false]
  intro x hx
  obtain ⟨k, hk, rfl⟩ := List.getElem_of_mem hx
  rw [List.length_drop] at hk
  have h2 := h (a + k) (by omega) (by omega)
  rw [List.getD_eq_getElem?_getD, List.getElem?_eq_getElem (by omega)] at h2
  rw [List.getElem_drop]
  simpa using h2
theorem sli_own6 {w : World} {base : Nat} {A : Option Addr} {n c : Nat} {V : List Int} (h : w.ownsRow base 3 1 (.slice A n c) n (ints V)) (hl : V.length = n) : SlI w.heap.size w A n c V := sli_own h hl

set_option maxRecDepth 100000 in
set_option maxHeartbeats 8000000 in
theorem mdecode_any (A : Option Addr) (c : Nat) (xs : List Nat) (w : World) (ha : At8 w A xs) (hb : ∀ x ∈ xs, x < 256) (hn : xs.length ≤ 1500) :
    Calls Tryd.prog 19 #[.slice A xs.length c] w (DcPost (decF xs) w) := by
  obtain ⟨T, hT⟩ : ∃ T, decF xs = T := ⟨_, rfl⟩
  rw [hT]
  have hgo := fun id N R (h : startF xs = (id, N, R, 0)) => dec_good (xs := xs) (id := id) (N := N) (R := R) h
  have hbd : ∀ e id N R, startF xs = (id, N, R, e) → e ≠ 0 → T = (mzero, e) := fun e id N R h he => by
    have h2 := dec_bad (xs := xs) (by rw [h]; exact he)
    rw [h, hT] at h2
    exact h2
  rw [hT] at hgo
  obtain ⟨SF, hSF⟩ : ∃ SF, startF xs = SF := ⟨_, rfl⟩
  have hsf := hSF
  unfold startF at hsf
  rw [hSF] at hgo hbd
  have HGO := Lib.hid hgo; have HBD := Lib.hid hbd; have HT := Lib.hid hsf.symm
  obtain ⟨w0, hw0⟩ : ∃ w0, (w.alloc (.cells #[.int .i64 0, .int .i64 0, .int .i64 0, .int .i64 0, .slice none 0 0, .slice none 0 0] 25)).alloc (.cells #[.int .i64 0, .int .i64 0, .int .i64 0, .int .i64 0, .slice none 0 0, .slice none 0 0] 25) = w0 := ⟨_, rfl⟩
  have hz0 : Has w0 w.heap.size 25 #[.int .i64 0, .int .i64 0, .int .i64 0, .int .i64 0, .slice none 0 0, .slice none 0 0] := by rw [← hw0]; exact (Has.made _ _ _).beside _
  have hn0 : Has w0 (w.heap.size + 1) 25 #[.int .i64 0, .int .i64 0, .int .i64 0, .int .i64 0, .slice none 0 0, .slice none 0 0] := by rw [← hw0]; exact has_made_at (by simp)
  have hb0 : Below w.heap.size w w0 := by rw [← hw0]; exact ((Below.refl _ _).alloc (Nat.le_refl _) _).alloc (by simp) _
  have hs0 : w0.heap.size = w.heap.size + 2 := by rw [← hw0]; simp
  have HA := Lib.hid (fun W (hW : Below w.heap.size w W) => at8_low ha hW)
  have HBY := Lib.hid hb
  have HBI := Lib.hid (fun W (hW : Below w.heap.size w W) => refBits_any A c xs W (at8_low ha hW) hb (by omega))
  have HZ0 := Lib.hid hz0; have HN0 := Lib.hid hn0; have HB0 := Lib.hid hb0; have HS0 := Lib.hid hs0
  have hBL := bitsOf_length xs
  have hbo : bitsFrom xs 0 (8 * xs.length) = bitsOf xs := rfl
  rw [hbo] at HBI
  obtain ⟨S, hS⟩ : ∃ S, bitsOf xs = S := ⟨_, rfl⟩
  rw [hS] at HBI HT hBL HGO
  have HBL := Lib.hid hBL
  have HSS := Lib.hid hS
  have hbi := HBI.out w0 hb0
  have HBI0 := Lib.hid hbi
  have HW0 := Lib.hid hw0
  clear hT hgo hbd hsf hz0 hn0 hb0 hs0 ha hb hbi hBL hS hbo hSF hw0
  go_enter Tryd.func19, Tryd.ntmps19
  go_wp2_with fail
  rw [HW0.out]
  clear HW0
  refine HBI0.out.mono ?_
  rintro e w1 ⟨A1, c1, rfl, ho1, hb1⟩
  have HB1 := Lib.hid hb1
  have hc1 := own_cap6 ho1
  have HLB : Hid (∀ a, A1 = some a → a.block < w1.heap.size) := Lib.hid (fun a h => (ho1.lt a.block (by rw [h]; rfl)).2)
  have HS1 : Hid (SlB w1 A1 (8 * xs.length) c1 S) := Lib.hid ⟨HBL.out, Sl.of_own ho1⟩
  clear hb1 ho1 HBI0
  go_wp2_with fail
  by_cases h1 : S.length < 8
  · have hTT : T = (mzero, 10) := HBD.out 10 0 [] [] (by rw [HT.out, if_pos h1]) (by decide)
    subst hTT
    refine (refGet_short A1 (8 * xs.length) c1 8 (by omega) (by omega) (by have := HBL.out; omega) w1).mono ?_
    rintro e w2 ⟨rfl, rfl⟩
    clear h1 HT HS1 HBI HA HBY HGO HBD HSS HBL hc1 HLB
    have hz := HZ0.out.under HB1.out HZ0.out.lt
    have hn := HN0.out.under HB1.out HN0.out.lt
    have hs0 := HS0.out
    have q0 : w1.cell? ⟨w.heap.size + 1, 0, none⟩ = some (.int .i64 0) := hn.cell 0
    have q1 : w1.cell? ⟨w.heap.size + 1, 1, none⟩ = some (.int .i64 0) := hn.cell 1
    have q2 : w1.cell? ⟨w.heap.size + 1, 2, none⟩ = some (.int .i64 0) := hn.cell 2
    have q3 : w1.cell? ⟨w.heap.size + 1, 3, none⟩ = some (.int .i64 0) := hn.cell 3
    have q4 : w1.cell? ⟨w.heap.size + 1, 4, none⟩ = some (.slice none 0 0) := hn.cell 4
    have q5 : w1.cell? ⟨w.heap.size + 1, 5, none⟩ = some (.slice none 0 0) := hn.cell 5
    have HE : Hid (w1.heap[w.heap.size]? = some (.cells #[.int .i64 0, .int .i64 0, .int .i64 0, .int .i64 0, .slice none 0 0, .slice none 0 0] 25 (0, 0))) := Lib.hid hz
    have HF := Lib.hid (has_setRow hz #[.int .i64 0, .int .i64 0, .int .i64 0, .int .i64 0, .slice none 0 0, .slice none 0 0])
    have HBF := Lib.hid (below_row (g := w.heap.size) (HB0.out.trans (HB1.out.mono (by omega))) (Nat.le_refl _) #[.int .i64 0, .int .i64 0, .int .i64 0, .int .i64 0, .slice none 0 0, .slice none 0 0])
    clear hz hn hs0
    go_wp2_with (with_reducible refine wpList_store_rowTo (o := ⟨none, _, _, _, _, _⟩) rfl 25 _ _ rfl rfl w.heap.size #[.int .i64 0, .int .i64 0, .int .i64 0, .int .i64 0, .slice none 0 0, .slice none 0 0] rfl rfl 25 _ HE.out (by kernel_rfl) (by kernel_rfl) (by kernel_rfl) ?_)
    refine bodyPost_ret (results_row_tmp rfl _ _ w.heap.size 25 _ _ rfl HF.out Tryd.underlying25 rfl (by kernel_rfl)) rfl ?_
    exact dc_zero 10 HBF.out
  have HT1 := Lib.hid (by have h := HT.out; rw [if_neg h1] at h; exact h)
  have hm1 : 8 ≤ 8 * xs.length := by have := HBL.out; omega
  refine (refGet_fits2 A1 (8 * xs.length) c1 S 8 (by omega) (by omega) hm1 (by omega) hc1 w1 HS1.out).mono ?_
  rintro e w2 ⟨A2, rfl, hs2, ⟨nd2, hw2⟩, hA2⟩
  have hb2 : Below w1.heap.size w1 w2 := by rw [hw2]; exact below_draws (Below.refl _ _) _
  have HB2 := Lib.hid (HB1.out.trans (hb2.mono HB1.out.size))
  have HLB2 : Hid (∀ a, A2 = some a → a.block < w2.heap.size) := Lib.hid (fun a h => by
    obtain ⟨a', h1, h2⟩ := hA2 a h
    have := HLB.out a' h1
    have := hb2.size
    omega)
  have HS2 := Lib.hid hs2
  have HG := Lib.hid (fun W => mget_any (num (S.take 8) : Nat) W)
  unfold rowV at HG
  obtain ⟨m2, hm2⟩ : ∃ m2, 8 * xs.length - 8 = m2 := ⟨_, rfl⟩
  obtain ⟨c2, hc2⟩ : ∃ c2, c1 - 8 = c2 := ⟨_, rfl⟩
  rw [hm2, hc2] at HS2 ⊢
  obtain ⟨id, hid⟩ : ∃ id : Int, ((num (S.take 8) : Nat) : Int) = id := ⟨_, rfl⟩
  rw [hid] at HT1 HG ⊢
  have hmc2 : m2 ≤ c2 := by omega
  clear hs2 hw2 hA2 hb2 HS1 HB1 h1 HT hid HLB
  go_wp2_with fail
  refine (HG.out _).mono ?_
  rintro e w3 ⟨rfl, hb3⟩
  obtain ⟨g8, hg8⟩ : ∃ g8, w3.heap.size = g8 := ⟨_, rfl⟩
  obtain ⟨w4, hw4⟩ : ∃ w4, w3.alloc (.cells #[.string (mrow id).own, .string (mrow id).must, .string (mrow id).may] 60) = w4 := ⟨_, rfl⟩
  have hb3' := HB2.out.trans (hb3.mono HB2.out.size)
  have hb34 : Below w3.heap.size w3 w4 := by rw [← hw4]; exact (Below.refl _ _).alloc (Nat.le_refl _) _
  have hh4 : Has w4 g8 60 #[.string (mrow id).own, .string (mrow id).must, .string (mrow id).may] := by rw [← hw4, ← hg8]; exact Has.made _ _ _
  have HB4 := Lib.hid (hb3'.trans (hb34.mono hb3'.size))
  have HS4 := Lib.hid ((HS2.out.under hb3).under hb34)
  have HH4 := Lib.hid hh4
  have HLB4 : Hid (∀ a, A2 = some a → a.block < w4.heap.size) := Lib.hid (fun a h => by have := HLB2.out a h; have := hb3.size; have := hb34.size; omega)
  have HG8 : Hid (w0.heap.size ≤ g8) := Lib.hid (by have := hb3'.size; omega)
  clear hb3 hb3' hb34 hh4 HS2 HB2 HG HLB2
  obtain ⟨k, hk⟩ : ∃ k, mknown id = k := ⟨_, rfl⟩
  rw [hk] at HT1 ⊢
  cases k
  · have hTT : T = (mzero, 4) := HBD.out 4 0 [] [] (by rw [HT1.out, if_pos rfl]) (by decide)
    subst hTT
    clear hk HT1 HS4 HBI HA HBY HGO HBD HSS HBL hc1 HLB4 HH4 HG8
    have hz := HZ0.out.under HB4.out HZ0.out.lt
    have hn := HN0.out.under HB4.out HN0.out.lt
    have hs0 := HS0.out
    have q0 : w4.cell? ⟨w.heap.size + 1, 0, none⟩ = some (.int .i64 0) := hn.cell 0
    have q1 : w4.cell? ⟨w.heap.size + 1, 1, none⟩ = some (.int .i64 0) := hn.cell 1
    have q2 : w4.cell? ⟨w.heap.size + 1, 2, none⟩ = some (.int .i64 0) := hn.cell 2
    have q3 : w4.cell? ⟨w.heap.size + 1, 3, none⟩ = some (.int .i64 0) := hn.cell 3
    have q4 : w4.cell? ⟨w.heap.size + 1, 4, none⟩ = some (.slice none 0 0) := hn.cell 4
    have q5 : w4.cell? ⟨w.heap.size + 1, 5, none⟩ = some (.slice none 0 0) := hn.cell 5
    have HE : Hid (w4.heap[w.heap.size]? = some (.cells #[.int .i64 0, .int .i64 0, .int .i64 0, .int .i64 0, .slice none 0 0, .slice none 0 0] 25 (0, 0))) := Lib.hid hz
    have HF := Lib.hid (has_setRow hz #[.int .i64 0, .int .i64 0, .int .i64 0, .int .i64 0, .slice none 0 0, .slice none 0 0])
    have HBF := Lib.hid (below_row (g := w.heap.size) (HB0.out.trans (HB4.out.mono (by omega))) (Nat.le_refl _) #[.int .i64 0, .int .i64 0, .int .i64 0, .int .i64 0, .slice none 0 0, .slice none 0 0])
    clear hz hn hs0
    go_wp2_with (with_reducible refine wpList_store_rowTo (o := ⟨none, _, _, _, _, _⟩) rfl 25 _ _ rfl rfl w.heap.size #[.int .i64 0, .int .i64 0, .int .i64 0, .int .i64 0, .slice none 0 0, .slice none 0 0] rfl rfl 25 _ HE.out (by kernel_rfl) (by kernel_rfl) (by kernel_rfl) ?_)
    refine bodyPost_ret (results_row_tmp rfl _ _ w.heap.size 25 _ _ rfl HF.out Tryd.underlying25 rfl (by kernel_rfl)) rfl ?_
    exact dc_zero 4 HBF.out
  have HT2 := Lib.hid (by have h := HT1.out; rw [if_neg (by decide)] at h; exact h)
  have HK := Lib.hid hk
  clear HT1 hk
  go_wp2_with fail
  clear hw4 hg8
  by_cases h2 : (S.drop 8).length < 10
  · have hTT : T = (mzero, 10) := HBD.out 10 0 [] [] (by rw [HT2.out, if_pos h2]) (by decide)
    subst hTT
    refine (refGet_short A2 m2 c2 10 (by omega) (by omega) (by have := HBL.out; rw [List.length_drop] at h2; omega) w4).mono ?_
    rintro e w5 ⟨rfl, rfl⟩
    clear h2 HT2 HS4 HBI HA HBY HGO HBD HSS HBL hc1 HLB4 HH4 HG8 HK
    have hz := HZ0.out.under HB4.out HZ0.out.lt
    have hn := HN0.out.under HB4.out HN0.out.lt
    have hs0 := HS0.out
    have q0 : w4.cell? ⟨w.heap.size + 1, 0, none⟩ = some (.int .i64 0) := hn.cell 0
    have q1 : w4.cell? ⟨w.heap.size + 1, 1, none⟩ = some (.int .i64 0) := hn.cell 1
    have q2 : w4.cell? ⟨w.heap.size + 1, 2, none⟩ = some (.int .i64 0) := hn.cell 2
    have q3 : w4.cell? ⟨w.heap.size + 1, 3, none⟩ = some (.int .i64 0) := hn.cell 3
    have q4 : w4.cell? ⟨w.heap.size + 1, 4, none⟩ = some (.slice none 0 0) := hn.cell 4
    have q5 : w4.cell? ⟨w.heap.size + 1, 5, none⟩ = some (.slice none 0 0) := hn.cell 5
    have HE : Hid (w4.heap[w.heap.size]? = some (.cells #[.int .i64 0, .int .i64 0, .int .i64 0, .int .i64 0, .slice none 0 0, .slice none 0 0] 25 (0, 0))) := Lib.hid hz
    have HF := Lib.hid (has_setRow hz #[.int .i64 0, .int .i64 0, .int .i64 0, .int .i64 0, .slice none 0 0, .slice none 0 0])
    have HBF := Lib.hid (below_row (g := w.heap.size) (HB0.out.trans (HB4.out.mono (by omega))) (Nat.le_refl _) #[.int .i64 0, .int .i64 0, .int .i64 0, .int .i64 0, .slice none 0 0, .slice none 0 0])
    clear hz hn hs0
    go_wp2_with (with_reducible refine wpList_store_rowTo (o := ⟨none, _, _, _, _, _⟩) rfl 25 _ _ rfl rfl w.heap.size #[.int .i64 0, .int .i64 0, .int .i64 0, .int .i64 0, .slice none 0 0, .slice none 0 0] rfl rfl 25 _ HE.out (by kernel_rfl) (by kernel_rfl) (by kernel_rfl) ?_)
    refine bodyPost_ret (results_row_tmp rfl _ _ w.heap.size 25 _ _ rfl HF.out Tryd.underlying25 rfl (by kernel_rfl)) rfl ?_
    exact dc_zero 10 HBF.out
  have HT3 := Lib.hid (by have h := HT2.out; rw [if_neg h2] at h; exact h)
  have hm3 : 10 ≤ m2 := by have := HBL.out; rw [List.length_drop] at h2; omega
  refine (refGet_fits2 A2 m2 c2 (S.drop 8) 10 (by omega) (by omega) hm3 (by omega) hmc2 w4 HS4.out).mono ?_
  rintro e w5 ⟨A5, rfl, hs5, ⟨nd5, hw5⟩, hA5⟩
  have hb5 : Below w4.heap.size w4 w5 := by rw [hw5]; exact below_draws (Below.refl _ _) _
  have HB5 := Lib.hid (HB4.out.trans (hb5.mono HB4.out.size))
  have HLB5 : Hid (∀ a, A5 = some a → a.block < w5.heap.size) := Lib.hid (fun a h => by
    obtain ⟨a', h1, h2⟩ := hA5 a h
    have := HLB4.out a' h1
    have := hb5.size
    omega)
  have HH5 := Lib.hid (HH4.out.under hb5 HH4.out.lt)
  rw [List.drop_drop] at hs5
  have HS5 := Lib.hid hs5
  obtain ⟨m5, hm5⟩ : ∃ m5, m2 - 10 = m5 := ⟨_, rfl⟩
  obtain ⟨c5, hc5⟩ : ∃ c5, c2 - 10 = c5 := ⟨_, rfl⟩
  rw [hm5, hc5] at HS5 ⊢
  have hmc5 : m5 ≤ c5 := by omega
  obtain ⟨told, htold⟩ : ∃ told, num ((S.drop 8).take 10) = told := ⟨_, rfl⟩
  rw [htold] at HT3 ⊢
  clear hs5 hw5 hA5 hb5 HS4 HB4 h2 HT2 htold HLB4 HH4
  by_cases h3 : told = xs.length
  rotate_left
  · have hTT : T = (mzero, 8) := HBD.out 8 0 [] [] (by rw [HT3.out, if_pos h3]) (by decide)
    subst hTT
    have e1 : ((told : Int) != (xs.length : Int)) = true := by simp; omega
    have e2 : ((told : Int) == (xs.length : Int)) = false := by rw [beq_eq_false_iff_ne]; omega
    clear h3 HT3 HS5 HBI HA HBY HGO HBD HSS HBL hc1 HLB5 HH5 HG8 HK
    have hz := HZ0.out.under HB5.out HZ0.out.lt
    have hn := HN0.out.under HB5.out HN0.out.lt
    have hs0 := HS0.out
    have q0 : w5.cell? ⟨w.heap.size + 1, 0, none⟩ = some (.int .i64 0) := hn.cell 0
    have q1 : w5.cell? ⟨w.heap.size + 1, 1, none⟩ = some (.int .i64 0) := hn.cell 1
    have q2 : w5.cell? ⟨w.heap.size + 1, 2, none⟩ = some (.int .i64 0) := hn.cell 2
    have q3 : w5.cell? ⟨w.heap.size + 1, 3, none⟩ = some (.int .i64 0) := hn.cell 3
    have q4 : w5.cell? ⟨w.heap.size + 1, 4, none⟩ = some (.slice none 0 0) := hn.cell 4
    have q5 : w5.cell? ⟨w.heap.size + 1, 5, none⟩ = some (.slice none 0 0) := hn.cell 5
    have HE : Hid (w5.heap[w.heap.size]? = some (.cells #[.int .i64 0, .int .i64 0, .int .i64 0, .int .i64 0, .slice none 0 0, .slice none 0 0] 25 (0, 0))) := Lib.hid hz
    have HF := Lib.hid (has_setRow hz #[.int .i64 0, .int .i64 0, .int .i64 0, .int .i64 0, .slice none 0 0, .slice none 0 0])
    have HBF := Lib.hid (below_row (g := w.heap.size) (HB0.out.trans (HB5.out.mono (by omega))) (Nat.le_refl _) #[.int .i64 0, .int .i64 0, .int .i64 0, .int .i64 0, .slice none 0 0, .slice none 0 0])
    clear hz hn hs0
    go_wp2_with (with_reducible refine wpList_store_rowTo (o := ⟨none, _, _, _, _, _⟩) rfl 25 _ _ rfl rfl w.heap.size #[.int .i64 0, .int .i64 0, .int .i64 0, .int .i64 0, .slice none 0 0, .slice none 0 0] rfl rfl 25 _ HE.out (by kernel_rfl) (by kernel_rfl) (by kernel_rfl) ?_)
    refine bodyPost_ret (results_row_tmp rfl _ _ w.heap.size 25 _ _ rfl HF.out Tryd.underlying25 rfl (by kernel_rfl)) rfl ?_
    exact dc_zero 8 HBF.out
  have HT4 := Lib.hid (by have h := HT3.out; rw [if_neg (by omega)] at h; exact h)
  subst told
  have e1 : ((xs.length : Int) != (xs.length : Int)) = false := by simp
  have hsh := mshape HK.out
  have HN := Lib.hid (fun W => names_any id (mrow id) hsh.ownS W)
  have HNV := Lib.hid (names_vars HK.out)
  have HFF : Hid (∀ A m c l W, SlK W A m c l → m ≤ 1048576 → Calls Tryd.prog 38 #[rowV (mrow id), .slice A m c] W fun e w' => e = .returned (.bool (fitsF id (pkIds l))) ∧ Below W.heap.size W w') := Lib.hid (fun A m c l W hl hm => by
    have h := fits_any (mrow id) hsh.mayS (by rw [hsh.must]; split <;> (try split) <;> decide) A m c l W hl hm
    rw [fits_text HK.out] at h
    exact h)
  have hsl : (namesS id (mrow id).own).length = (mvars id).length := by have := congrArg List.length HNV.out; simpa using this
  have hml : (mvars id).length ≤ 8 := by
    have := hsh.ownN
    unfold mvars baseV
    cases mup id <;> simp <;> omega
  have HM96 := Lib.hid (mvars_lt HK.out)
  have HU := Lib.hid (fun W => mup_any id W)
  obtain ⟨M, hM⟩ : ∃ M, mvars id = M := ⟨_, rfl⟩
  have HMI := Lib.hid hM
  rw [hM] at hsl hml HNV HM96 HT4
  generalize namesS id (mrow id).own = S6 at *
  unfold rowV at *
  generalize mrow id = R at *
  obtain ⟨K, hKK⟩ : ∃ K, M.length = K := ⟨_, rfl⟩
  rw [hKK] at hsl hml
  simp only [hsl] at HN
  have HSL := Lib.hid hsl; have HKK := Lib.hid hKK
  have r0 : w5.cell? ⟨g8, 0, none⟩ = some (.string R.own) := HH5.out.cell 0
  have r1 : w5.cell? ⟨g8, 1, none⟩ = some (.string R.must) := HH5.out.cell 1
  have r2 : w5.cell? ⟨g8, 2, none⟩ = some (.string R.may) := HH5.out.cell 2
  clear hM hsh hsl hKK HT3
  go_wp2_with fail
  refine (HN.out _).mono ?_
  rintro e w6 ⟨A6, c6, rfl, hs6, hb6⟩
  have HS6 := Lib.hid hs6
  have HB6 := Lib.hid (HB5.out.trans (hb6.mono HB5.out.size))
  have HH6 := Lib.hid (HH5.out.under hb6 HH5.out.lt)
  have HS5' := Lib.hid (HS5.out.under hb6)
  have HLB6 : Hid (∀ a, A5 = some a → a.block < w6.heap.size) := Lib.hid (fun a h => by have := HLB5.out a h; have := hb6.size; omega)
  have HG8' : Hid (g8 < w6.heap.size) := Lib.hid HH6.out.lt
  clear hs6 hb6 HN HB5 HH5 HS5 HLB5 r0 r1 r2 e1
  have hm5b : m5 ≤ 12000 := by omega
  clear hm2 hc2 hmc2 hm3 hm5 hc5 hc1 hm1
  go_wp2
  go_loopw [5, 13, 14] (fun s5 s13 s14 wr => ∃ (j : Nat) (N : List Int) (b : List Bool) (A7 : Option Addr) (m7 c7 : Nat) (A13 : Option Addr) (c13 : Nat), s5 = .slice A7 m7 c7 ∧ s13 = .slice A13 j c13 ∧ s14 = .int .i64 (j : Nat) ∧ j ≤ K ∧ N.length = j ∧ readVars M (S.drop 18) = rvJoin N (readVars (M.drop j) b) ∧ SlB wr A7 m7 c7 b ∧ m7 ≤ c7 ∧ m7 ≤ 12000 ∧ (∀ a, A7 = some a → a.block < w6.heap.size) ∧ wr.ownsRow w6.heap.size 3 1 (.slice A13 j c13) j (ints N) ∧ Below w6.heap.size w6 wr) (fun _ _ s14 _ => K - (intOf s14).toNat)
  case atStart => exact ⟨0, [], S.drop 18, A5, m5, c5, none, 0, rfl, rfl, rfl, by omega, rfl, by rw [List.drop_zero]; exact rv_start _ _, HS5'.out, hmc5, hm5b, HLB6.out, World.ownsRow_nil _ _ _ _, Below.refl _ _⟩
  case round =>
    clear HS5' hmc5 hm5b HLB6
    obtain ⟨j, N, b, A7, m7, c7, A13, c13, rfl, rfl, rfl, hj, hNl, hrv, hsb, hmc7, hm7b, hlb, ho, hbw⟩ := hrel
    have HNL := Lib.hid hNl; have HRV := Lib.hid hrv; have HSB := Lib.hid hsb; have HLB := Lib.hid hlb; have HO := Lib.hid ho; have HBW := Lib.hid hbw
    clear hNl hrv hsb hlb ho hbw
    by_cases hlt : j < K
    · have hjM : j < M.length := by rw [HKK.out]; exact hlt
      have hjS : j < S6.length := by rw [HSL.out]; exact hlt
      obtain ⟨b0, o0, hA6, f0⟩ := (HS6.out.under HBW.out).at_ hlt
      have hfd : findOf (S6.getD j ⟨#[]⟩) = (M[j] : Nat) := by
        have h := congrArg (fun l => l[j]?) HNV.out
        simp only [List.getElem?_map, List.getElem?_eq_getElem hjS, List.getElem?_eq_getElem hjM, Option.map_some, Option.some.injEq] at h
        rw [List.getD_eq_getElem?_getD, List.getElem?_eq_getElem hjS]
        exact h
      have hfi := fun W => ref_find (S6.getD j ⟨#[]⟩) W
      rw [hfd] at hfi
      have hdr : M.drop j = M[j] :: M.drop (j + 1) := List.drop_eq_getElem_cons hjM
      have hv96 := HM96.out M[j] (List.getElem_mem hjM)
      have hrv := HRV.out
      rw [hdr] at hrv
      generalize S6.getD j ⟨#[]⟩ = s at *
      generalize M[j] = v at *
      have hwk := width_one (v : Int) (by omega) (by omega)
      have HRS := Lib.hid (fun h => hrv.trans (rv_short (v := v) (L := M.drop (j + 1)) (b := b) N h))
      have HRB := Lib.hid (fun h hm => hrv.trans (rv_bad (v := v) (L := M.drop (j + 1)) (b := b) N h hm))
      have HRT := Lib.hid (fun h hm => hrv.trans (rv_step (v := v) (L := M.drop (j + 1)) (b := b) N h hm))
      have hwi := fun W => ref_width (v : Nat) W
      have hma := fun n W => ref_may (v : Nat) n W
      generalize widthOf v = kw at *
      have HFI := Lib.hid hfi; have HWI := Lib.hid hwi; have HMA := Lib.hid hma; have HWK := Lib.hid hwk
      have x0 : (0 : Int) ≤ j := by omega
      have x1 : (j : Int) < K := by omega
      have HBZ := Lib.hid (HB6.out.trans (HBW.out.mono HB6.out.size))
      clear hfi hwi hma hwk hfd hdr hv96 hrv HRV
      subst hA6
      go_wp2_with fail
      refine (HFI.out _).mono ?_
      rintro e w7 ⟨rfl, hb7⟩
      have HB7 := Lib.hid hb7
      clear hb7 HFI f0
      go_wp2_with fail
      refine (HWI.out _).mono ?_
      rintro e w8 ⟨rfl, hb8⟩
      have HB8 := Lib.hid (HB7.out.trans (hb8.mono HB7.out.size))
      clear hb8 HWI HB7
      go_wp2_with fail
      have hsb8 := HSB.out.under HB8.out
      by_cases h6 : b.length < kw
      · have hTT : T = (mzero, 10) := HBD.out 10 0 [] [] (by rw [HT4.out, HRS.out h6, if_pos (by decide)]) (by decide)
        subst hTT
        refine (refGet_short A7 m7 c7 kw (by have := HWK.out.1; omega) (by have := HWK.out.2; omega) (by rw [← hsb8.1]; omega) w8).mono ?_
        rintro e w9 ⟨rfl, rfl⟩
        have HBX := Lib.hid (HBZ.out.trans (HB8.out.mono HBZ.out.size))
        clear hsb8 HRS HRB HRT h6 HT4 HO HSB HLB HBI HA HBY HGO HBD HSS HBL HG8 HG8' HK HMA HBZ HB8 HBW HFF HU
        have hz := HZ0.out.under HBX.out HZ0.out.lt
        have hn := HN0.out.under HBX.out HN0.out.lt
        have hs0 := HS0.out
        have q0 : w8.cell? ⟨w.heap.size + 1, 0, none⟩ = some (.int .i64 0) := hn.cell 0
        have q1 : w8.cell? ⟨w.heap.size + 1, 1, none⟩ = some (.int .i64 0) := hn.cell 1
        have q2 : w8.cell? ⟨w.heap.size + 1, 2, none⟩ = some (.int .i64 0) := hn.cell 2
        have q3 : w8.cell? ⟨w.heap.size + 1, 3, none⟩ = some (.int .i64 0) := hn.cell 3
        have q4 : w8.cell? ⟨w.heap.size + 1, 4, none⟩ = some (.slice none 0 0) := hn.cell 4
        have q5 : w8.cell? ⟨w.heap.size + 1, 5, none⟩ = some (.slice none 0 0) := hn.cell 5
        have HE : Hid (w8.heap[w.heap.size]? = some (.cells #[.int .i64 0, .int .i64 0, .int .i64 0, .int .i64 0, .slice none 0 0, .slice none 0 0] 25 (0, 0))) := Lib.hid hz
        have HF := Lib.hid (has_setRow hz #[.int .i64 0, .int .i64 0, .int .i64 0, .int .i64 0, .slice none 0 0, .slice none 0 0])
        have HBF := Lib.hid (below_row (g := w.heap.size) (HB0.out.trans (HBX.out.mono (by omega))) (Nat.le_refl _) #[.int .i64 0, .int .i64 0, .int .i64 0, .int .i64 0, .slice none 0 0, .slice none 0 0])
        clear hz hn hs0
        go_wp2_with (with_reducible refine wpList_store_rowTo (o := ⟨none, _, _, _, _, _⟩) rfl 25 _ _ rfl rfl w.heap.size #[.int .i64 0, .int .i64 0, .int .i64 0, .int .i64 0, .slice none 0 0, .slice none 0 0] rfl rfl 25 _ HE.out (by kernel_rfl) (by kernel_rfl) (by kernel_rfl) ?_)
        refine bodyPost_ret (results_row_tmp rfl _ _ w.heap.size 25 _ _ rfl HF.out Tryd.underlying25 rfl (by kernel_rfl)) rfl ?_
        exact dc_zero 10 HBF.out
      refine (refGet_fits2 A7 m7 c7 b kw HWK.out.1 HWK.out.2 (by rw [← hsb8.1]; omega) (by omega) hmc7 w8 hsb8).mono ?_
      rintro e w9 ⟨A9, rfl, hs9, ⟨nd9, hw9⟩, hA9⟩
      have hb9 : Below w8.heap.size w8 w9 := by rw [hw9]; exact below_draws (Below.refl _ _) _
      have HB9 := Lib.hid (HB8.out.trans (hb9.mono HB8.out.size))
      have HLB9 : Hid (∀ a, A9 = some a → a.block < w6.heap.size) := Lib.hid (fun a h => by
        obtain ⟨a', h1, h2⟩ := hA9 a h
        have := HLB.out a' h1
        omega)
      have HS9 := Lib.hid hs9
      have HRB9 := Lib.hid (HRB.out h6); have HRT9 := Lib.hid (HRT.out h6)
      have hkm : kw ≤ m7 := by rw [← hsb8.1]; omega
      obtain ⟨n, hn⟩ : ∃ n, num (b.take kw) = n := ⟨_, rfl⟩
      rw [hn] at HRB9 HRT9 ⊢
      have HM9 := Lib.hid (HMA.out (n : Nat) w9)
      have HM9 := Lib.hid (HMA.out (n : Nat))
      clear hs9 hw9 hA9 hb9 hsb8 HRS HRB HRT HMA HB8 HSB HLB h6 hn
      generalize mayOf v n = q at *
      go_wp2_with fail
      refine (HM9.out _).mono ?_
      rintro e w10 ⟨rfl, hb10⟩
      have HB10 := Lib.hid (HB9.out.trans (hb10.mono HB9.out.size))
      have HS10 := Lib.hid (HS9.out.under hb10)
      have HO10 := Lib.hid (own_under HO.out HB10.out (Nat.le_refl _))
      have HBX := Lib.hid (HBZ.out.trans (HB10.out.mono HBZ.out.size))
      clear hb10 HB9 HS9 HO HM9 HBZ
      cases q
      · have hTT : T = (mzero, 20) := HBD.out 20 0 [] [] (by rw [HT4.out, HRB9.out rfl, if_pos (by decide)]) (by decide)
        subst hTT
        clear HRB9 HRT9 HT4 HO10 HS10 HLB9 HBI HA HBY HGO HBD HSS HBL HG8 HG8' HK HB10 HBW HFF HU
        have hz := HZ0.out.under HBX.out HZ0.out.lt
        have hn := HN0.out.under HBX.out HN0.out.lt
        have hs0 := HS0.out
        have q0 : w10.cell? ⟨w.heap.size + 1, 0, none⟩ = some (.int .i64 0) := hn.cell 0
        have q1 : w10.cell? ⟨w.heap.size + 1, 1, none⟩ = some (.int .i64 0) := hn.cell 1
        have q2 : w10.cell? ⟨w.heap.size + 1, 2, none⟩ = some (.int .i64 0) := hn.cell 2
        have q3 : w10.cell? ⟨w.heap.size + 1, 3, none⟩ = some (.int .i64 0) := hn.cell 3
        have q4 : w10.cell? ⟨w.heap.size + 1, 4, none⟩ = some (.slice none 0 0) := hn.cell 4
        have q5 : w10.cell? ⟨w.heap.size + 1, 5, none⟩ = some (.slice none 0 0) := hn.cell 5
        have HE : Hid (w10.heap[w.heap.size]? = some (.cells #[.int .i64 0, .int .i64 0, .int .i64 0, .int .i64 0, .slice none 0 0, .slice none 0 0] 25 (0, 0))) := Lib.hid hz
        have HF := Lib.hid (has_setRow hz #[.int .i64 0, .int .i64 0, .int .i64 0, .int .i64 0, .slice none 0 0, .slice none 0 0])
        have HBF := Lib.hid (below_row (g := w.heap.size) (HB0.out.trans (HBX.out.mono (by omega))) (Nat.le_refl _) #[.int .i64 0, .int .i64 0, .int .i64 0, .int .i64 0, .slice none 0 0, .slice none 0 0])
        clear hz hn hs0
        go_wp2_with (with_reducible refine wpList_store_rowTo (o := ⟨none, _, _, _, _, _⟩) rfl 25 _ _ rfl rfl w.heap.size #[.int .i64 0, .int .i64 0, .int .i64 0, .int .i64 0, .slice none 0 0, .slice none 0 0] rfl rfl 25 _ HE.out (by kernel_rfl) (by kernel_rfl) (by kernel_rfl) ?_)
        refine bodyPost_ret (results_row_tmp rfl _ _ w.heap.size 25 _ _ rfl HF.out Tryd.underlying25 rfl (by kernel_rfl)) rfl ?_
        exact dc_zero 20 HBF.out
      have HRT10 := Lib.hid (HRT9.out rfl)
      have HNW := cell_news w10 #[.int .i64 n] 3 [.int .i64 (n : Nat)] rfl
      have H1C : Hid (∀ u ∈ ([.int .i64 (n : Nat)] : List Value), u.oneCell' = true) := Lib.hid (fun u hu => by simp at hu; subst hu; rfl)
      have hba : Below w10.heap.size w10 (w10.alloc (.cells #[.int .i64 n] 3)) := (Below.refl _ _).alloc (Nat.le_refl _) _
      have hbwa := (HBW.out.trans (HB10.out.mono HBW.out.size)).trans (hba.mono (Nat.le_trans HBW.out.size HB10.out.size))
      have HBA := Lib.hid hbwa
      have HOA : Hid ((w10.alloc (.cells #[.int .i64 n] 3)).ownsRow w6.heap.size 3 1 (.slice A13 j c13) j (ints N)) := Lib.hid (HO10.out.alloc _)
      have HSA := Lib.hid (HS10.out.under hba)
      have HBDD : Hid (j + 1 ≤ maxLen ∧ (j + 1) * 8 ≤ 140737488355328 ∧ w6.heap.size ≤ (w10.alloc (.cells #[.int .i64 n] 3)).heap.size) := Lib.hid ⟨by unfold maxLen; omega, by omega, hbwa.size⟩
      clear hba hbwa HRB9 HRT9 HB10 HBW HO10 HS10 HBX
      go_wp2_with (with_reducible refine wpList_push (o := ⟨some 100, _, _, _, _, _⟩) rfl (.tmp 97) (.tmp 99) 22 rfl w6.heap.size 3 (.int .i64 0) 1 8 Tryd.underlying22 info_int ?hz (by decide) A13 j c13 (ints N) ?hs HOA ⟨w10.heap.size, 0, none⟩ 1 1 [.int .i64 (n : Nat)] ?hx (Lib.hid rfl) HNW H1C HBDD ?next)
      all_goals try rfl
      case next =>
        intro A11 c11 w11 ho11 hg11
        have HB11 := Lib.hid (below_own HBA.out HBDD.out.2.2 HOA.out (Nat.le_refl _) rfl hg11.out)
        have HS11 : Hid (SlB w11 A9 (m7 - kw) (c7 - kw) (b.drop kw)) := Lib.hid ⟨HSA.out.1, HSA.out.2.grow hg11.out (fun a ha _ e => by
          have h1 := HLB9.out a ha
          have h2 := (HOA.out.lt a.block e.symm).1
          omega)⟩
        have HO11 : Hid (w11.ownsRow w6.heap.size 3 1 (.slice A11 (j + 1) c11) (j + 1) (ints (N ++ [(n : Int)]))) := Lib.hid (by
          have h := ho11.out
          simpa [ints] using h)
        clear ho11 hg11 HOA HSA HBA
        go_wp2
        go_roundw
        case rel => exact ⟨j + 1, N ++ [(n : Int)], b.drop kw, A9, m7 - kw, c7 - kw, A11, c11, rfl, rfl, by go_num, by omega, by rw [List.length_append, HNL.out]; rfl, HRT10.out, HS11.out, by omega, by omega, HLB9.out, HO11.out, HB11.out⟩
        case measure => simp [intOf]; omega
    obtain rfl : j = K := by omega
    have hd0 : M.drop j = [] := List.drop_of_length_le (by have := HKK.out; omega)
    have hrv := HRV.out
    rw [hd0, rv_end] at hrv
    have hT6 := HT4.out
    rw [hrv, if_neg (by simp)] at hT6
    obtain ⟨g1, g2, g3, g4, g5⟩ := HGO.out id N b hT6
    have hm7 := HSB.out.1
    have hpp : (S.length : Int) - (b.length : Int) = ((8 * xs.length - m7 : Nat) : Int) := by rw [HBL.out, hm7]; omega
    rw [hpp] at g5
    obtain ⟨a0, ha0⟩ : ∃ a0, 8 * xs.length - m7 = a0 := ⟨_, rfl⟩
    rw [ha0] at g5
    have ha08 : a0 ≤ 8 * xs.length := by omega
    have ham : (8 * (xs.length : Int)) - (m7 : Int) = (a0 : Int) := by rw [hm7] at g3; omega
    have HG5 := Lib.hid g5
    have HBZ := Lib.hid (HB6.out.trans (HBW.out.mono HB6.out.size))
    have HH7 := Lib.hid (HH6.out.under HBW.out HH6.out.lt)
    have hxl : 0 < xs.length := g4
    have HNM : Hid (M.length = N.length) := Lib.hid (by rw [← HMI.out]; exact g2)
    clear g1 g2 g3 g4 g5 hpp hT6 hrv hd0 HSB HRV HT4 HGO HBD hlt hmc7 HLB
    obtain ⟨w7, hw7⟩ : ∃ w7, wr = w7 := ⟨_, rfl⟩
    rw [hw7] at HO HBW HBZ HH7 ⊢
    clear hw7
    go_wp2_with fail
    refine (HU.out _).mono ?_
    rintro e w8 ⟨rfl, hb8⟩
    have hb8z := HBZ.out.trans (hb8.mono HBZ.out.size)
    have hsi := sliUnder (sli_own HO.out HNL.out) hb8
    have hlow : ∀ a, A13 = some a → w6.heap.size ≤ a.block ∧ a.block < w7.heap.size := fun a h => HO.out.lt a.block (by rw [h]; rfl)
    have hh8 := HH7.out.under hb8 HH7.out.lt
    have hle : 2 ≤ j ∧ (mup id = false → 3 ≤ j) := by
      have h1 : M.length = j := HKK.out
      rw [← h1, ← HMI.out]
      unfold mvars baseV
      cases mup id <;> simp
    have hmk : ∀ Q, mkMsg id N Q = if mup id = true then ⟨id, N.getD 0 0, 0, N.getD 1 0, N.drop 2, Q⟩ else ⟨id, N.getD 0 0, N.getD 1 0, N.getD 2 0, N.drop 3, Q⟩ := fun Q => rfl
    obtain ⟨u, hu⟩ : ∃ u, mup id = u := ⟨_, rfl⟩
    rw [hu] at hle hmk ⊢
    have hat : ∀ W, SlI W.heap.size W A13 j c13 N → ∀ i, i < j → ∃ b o, A13 = some ⟨b, o, none⟩ ∧ W.cell? ⟨b, o + i, none⟩ = some (.int .i64 (N.getD i 0)) := fun W h i hi => (sln_of h).at_ hi
    obtain ⟨b1, o1, hA13, d0⟩ := hat w8 hsi 0 (by omega)
    rw [Nat.add_zero] at d0
    subst hA13
    have hat1 : ∀ W, SlI W.heap.size W (some ⟨b1, o1, none⟩) j c13 N → ∀ i, i < j → W.cell? ⟨b1, o1 + i, none⟩ = some (.int .i64 (N.getD i 0)) := fun W h i hi => by
      obtain ⟨b', o', h1, h2⟩ := hat W h i hi
      simp only [Option.some.injEq, Addr.mk.injEq, and_true] at h1
      obtain ⟨rfl, rfl⟩ := h1
      exact h2
    have hb1 : w6.heap.size ≤ b1 ∧ b1 < w7.heap.size := hlow _ rfl
    obtain ⟨y0, hy0⟩ : ∃ y0, N.getD 0 0 = y0 := ⟨_, rfl⟩
    obtain ⟨y1, hy1⟩ : ∃ y1, N.getD 1 0 = y1 := ⟨_, rfl⟩
    obtain ⟨y2, hy2⟩ : ∃ y2, N.getD 2 0 = y2 := ⟨_, rfl⟩
    rw [hy0] at d0
    rw [hy0, hy1, hy2] at hmk
    obtain ⟨gm, hgm⟩ : ∃ gm, w8.heap.size = gm := ⟨_, rfl⟩
    obtain ⟨w9, hw9⟩ : ∃ w9, w8.alloc (.cells #[.int .i64 id, .int .i64 y0, .int .i64 0, .int .i64 0, .slice none 0 0, .slice none 0 0] 25) = w9 := ⟨_, rfl⟩
    have hb9 : Below w8.heap.size w8 w9 := by rw [← hw9]; exact (Below.refl _ _).alloc (Nat.le_refl _) _
    have hm9 : Has w9 gm 25 #[.int .i64 id, .int .i64 y0, .int .i64 0, .int .i64 0, .slice none 0 0, .slice none 0 0] := by rw [← hw9, ← hgm]; exact Has.made _ _ _
    have hb9z := hb8z.trans (hb9.mono hb8z.size)
    have hsi9 := sliUnder hsi hb9
    have hh9 := hh8.under hb9 hh8.lt
    have h7m : w7.heap.size ≤ gm := by have := hb8.size; omega
    have HG0 : Hid (w0.heap.size ≤ gm) := Lib.hid (by have := hb8z.size; omega)
    have hb1m : b1 ≠ gm := by omega
    have x00 : (0 : Int) < j := by omega
    have x01 : (1 : Int) < j := by omega
    have HM9 := Lib.hid hm9; have HB9 := Lib.hid hb9z; have HSI9 := Lib.hid hsi9; have HH9 := Lib.hid hh9; have HMK := Lib.hid hmk; have HAT := Lib.hid hat1
    have HLE := Lib.hid hle; have H7M := Lib.hid h7m; have HB1M := Lib.hid hb1m; have HL1 := Lib.hid hb1
    have HY1 := Lib.hid hy1; have HY2 := Lib.hid hy2
    have hne : ∀ a : Addr, some (⟨b1, o1, none⟩ : Addr) = some a → some a.block ≠ some gm := fun a h e => by
      injection h with h
      injection e with e
      rw [← h] at e
      exact HB1M.out e
    have HNE := Lib.hid hne
    clear hb8 hb8z hsi hlow hh8 hle hmk hu hat hat1 hb9 hm9 hb9z hsi9 hh9 h7m hb1m hb1 hy0 hy1 hy2 hne HU HO HBZ HH7 HBW HNM HNL
    have HW9 := Lib.hid hw9; have HGM := Lib.hid hgm
    clear hw9 hgm
    go_upto_if 109 with fail
    rw [HW9.out, HGM.out]
    clear HW9 HGM d0
    go_cut [20] (fun s20 wc => ∃ (t a o : Int) (X : Option Addr) (n c : Nat) (V : List Int), s20 = s20 ∧ Has wc gm 25 #[.int .i64 id, .int .i64 t, .int .i64 a, .int .i64 o, .slice X n c, .slice none 0 0] ∧ (∀ Q, (⟨id, t, a, o, V, Q⟩ : Msg) = mkMsg id N Q) ∧ SlI wc.heap.size wc X n c V ∧ (∀ a', X = some a' → w6.heap.size ≤ a'.block ∧ a'.block ≠ gm) ∧ w9.grownBy wc (some gm))
    case first =>
      have hm9 := HM9.out
      have hsi9 := HSI9.out
      have hj2 : 2 ≤ j := HLE.out.1
      have y1e := HY1.out
      have y2e := HY2.out
      cases u
      · have hj3 := HLE.out.2 rfl
        have x02 : (2 : Int) < j := by omega
        obtain ⟨wA, hwA⟩ : ∃ wA, w9.setCell ⟨gm, 2, none⟩ (.int .i64 y1) = wA := ⟨_, rfl⟩
        have hmA : Has wA gm 25 #[.int .i64 id, .int .i64 y0, .int .i64 y1, .int .i64 0, .slice none 0 0, .slice none 0 0] := by rw [← hwA]; exact hm9.stored 2 _
        have hgA : w9.grownBy wA (some gm) := by rw [← hwA]; exact only_store (only_refl _ _) rfl _
        have hsiA := hsi9.grow hgA (fun _ => HNE.out)
        obtain ⟨wB, hwB⟩ : ∃ wB, wA.setCell ⟨gm, 3, none⟩ (.int .i64 y2) = wB := ⟨_, rfl⟩
        have hmB : Has wB gm 25 #[.int .i64 id, .int .i64 y0, .int .i64 y1, .int .i64 y2, .slice none 0 0, .slice none 0 0] := by rw [← hwB]; exact hmA.stored 3 _
        have hgB : w9.grownBy wB (some gm) := only_trans hgA (by rw [← hwB]; exact only_store (only_refl _ _) rfl _)
        have hsiB := hsi9.grow hgB (fun _ => HNE.out)
        have hCU := fun W => cut_from (P := Tryd.prog) 22 3 Tryd.underlying22 (by kernel_rfl) info_int1 (some ⟨b1, o1, none⟩) j c13 3 (by omega) W
        have hsl := sli_from hsiB (p := 3) (by omega)
        obtain ⟨X, hX⟩ : ∃ X, (if c13 = 3 then (some ⟨b1, o1, none⟩ : Option Addr) else (some ⟨b1, o1, none⟩ : Option Addr).map (·.add (3 * 1))) = X := ⟨_, rfl⟩
        have hXB : ∀ a', X = some a' → w6.heap.size ≤ a'.block ∧ a'.block ≠ gm := fun a' h => by
          obtain ⟨a, h1, h2⟩ := from_block a' (hX.trans h)
          injection h1 with h1
          rw [h2, ← h1]
          exact ⟨HL1.out.1, HB1M.out⟩
        rw [hX] at hsl
        simp only [hX] at hCU
        have hCU1 : ∀ W, (Instr.sliceAt 22 (.slice (some ⟨b1, o1, none⟩) j c13) (some (.int .i64 3)) none none).run Tryd.prog W = .ok (.slice X (j - 3) (c13 - 3)) W := fun W => hCU W
        obtain ⟨wC, hwC⟩ : ∃ wC, wB.setCell ⟨gm, 4, none⟩ (.slice X (j - 3) (c13 - 3)) = wC := ⟨_, rfl⟩
        have hmC : Has wC gm 25 #[.int .i64 id, .int .i64 y0, .int .i64 y1, .int .i64 y2, .slice X (j - 3) (c13 - 3), .slice none 0 0] := by rw [← hwC]; exact hmB.stored 4 _
        have hgBC : wB.grownBy wC (some gm) := by rw [← hwC]; exact only_store (only_refl _ _) rfl _
        have hgC := only_trans hgB hgBC
        have hslC := hsl.grow hgBC (fun _ a h e => (hXB a h).2 (by injection e))
        have HR : Hid (∃ (t a o : Int) (X' : Option Addr) (n c : Nat) (V : List Int), Has wC gm 25 #[.int .i64 id, .int .i64 t, .int .i64 a, .int .i64 o, .slice X' n c, .slice none 0 0] ∧ (∀ Q, (⟨id, t, a, o, V, Q⟩ : Msg) = mkMsg id N Q) ∧ SlI wC.heap.size wC X' n c V ∧ (∀ a', X' = some a' → w6.heap.size ≤ a'.block ∧ a'.block ≠ gm) ∧ w9.grownBy wC (some gm)) := Lib.hid ⟨y0, y1, y2, X, j - 3, c13 - 3, N.drop 3, hmC, fun Q => by rw [HMK.out]; rfl, hslC, hXB, hgC⟩
        have d1 := HAT.out w9 hsi9 1 (by omega)
        have d2 := HAT.out wA hsiA 2 (by omega)
        rw [y1e] at d1
        rw [y2e] at d2
        have f2 := hm9.thaw 2
        have f3 := hmA.thaw 3
        have f4 := hmB.thaw 4
        have k2 : w9.cell? ⟨gm, 2, none⟩ = some (.int .i64 0) := hm9.cell 2
        have k3 : wA.cell? ⟨gm, 3, none⟩ = some (.int .i64 0) := hmA.cell 3
        have k4 : wB.cell? ⟨gm, 4, none⟩ = some (.slice none 0 0) := hmB.cell 4
        clear hm9 hsi9 hmA hgA hsiA hmB hgB hsiB hCU hsl hX hXB hmC hgBC hgC hslC y1e y2e
        go_wp2_with fail
        go_meet
        obtain ⟨t, a, o, X', n, c', V, r⟩ := HR.out
        exact ⟨t, a, o, X', n, c', V, trivial, r⟩
      · obtain ⟨wA, hwA⟩ : ∃ wA, w9.setCell ⟨gm, 3, none⟩ (.int .i64 y1) = wA := ⟨_, rfl⟩
        have hmB : Has wA gm 25 #[.int .i64 id, .int .i64 y0, .int .i64 0, .int .i64 y1, .slice none 0 0, .slice none 0 0] := by rw [← hwA]; exact hm9.stored 3 _
        have hgB : w9.grownBy wA (some gm) := by rw [← hwA]; exact only_store (only_refl _ _) rfl _
        have hsiB := hsi9.grow hgB (fun _ => HNE.out)
        have hCU := fun W => cut_from (P := Tryd.prog) 22 3 Tryd.underlying22 (by kernel_rfl) info_int1 (some ⟨b1, o1, none⟩) j c13 2 (by omega) W
        have hsl := sli_from hsiB (p := 2) (by omega)
        obtain ⟨X, hX⟩ : ∃ X, (if c13 = 2 then (some ⟨b1, o1, none⟩ : Option Addr) else (some ⟨b1, o1, none⟩ : Option Addr).map (·.add (2 * 1))) = X := ⟨_, rfl⟩
        have hXB : ∀ a', X = some a' → w6.heap.size ≤ a'.block ∧ a'.block ≠ gm := fun a' h => by
          obtain ⟨a, h1, h2⟩ := from_block a' (hX.trans h)
          injection h1 with h1
          rw [h2, ← h1]
          exact ⟨HL1.out.1, HB1M.out⟩
        rw [hX] at hsl
        simp only [hX] at hCU
        have hCU1 : ∀ W, (Instr.sliceAt 22 (.slice (some ⟨b1, o1, none⟩) j c13) (some (.int .i64 2)) none none).run Tryd.prog W = .ok (.slice X (j - 2) (c13 - 2)) W := fun W => hCU W
        obtain ⟨wC, hwC⟩ : ∃ wC, wA.setCell ⟨gm, 4, none⟩ (.slice X (j - 2) (c13 - 2)) = wC := ⟨_, rfl⟩
        have hmC : Has wC gm 25 #[.int .i64 id, .int .i64 y0, .int .i64 0, .int .i64 y1, .slice X (j - 2) (c13 - 2), .slice none 0 0] := by rw [← hwC]; exact hmB.stored 4 _
        have hgBC : wA.grownBy wC (some gm) := by rw [← hwC]; exact only_store (only_refl _ _) rfl _
        have hgC := only_trans hgB hgBC
        have hslC := hsl.grow hgBC (fun _ a h e => (hXB a h).2 (by injection e))
        have HR : Hid (∃ (t a o : Int) (X' : Option Addr) (n c : Nat) (V : List Int), Has wC gm 25 #[.int .i64 id, .int .i64 t, .int .i64 a, .int .i64 o, .slice X' n c, .slice none 0 0] ∧ (∀ Q, (⟨id, t, a, o, V, Q⟩ : Msg) = mkMsg id N Q) ∧ SlI wC.heap.size wC X' n c V ∧ (∀ a', X' = some a' → w6.heap.size ≤ a'.block ∧ a'.block ≠ gm) ∧ w9.grownBy wC (some gm)) := Lib.hid ⟨y0, 0, y1, X, j - 2, c13 - 2, N.drop 2, hmC, fun Q => by rw [HMK.out]; rfl, hslC, hXB, hgC⟩
        have d1 := HAT.out w9 hsi9 1 (by omega)
        rw [y1e] at d1
        have f3 := hm9.thaw 3
        have f4 := hmB.thaw 4
        have k3 : w9.cell? ⟨gm, 3, none⟩ = some (.int .i64 0) := hm9.cell 3
        have k4 : wA.cell? ⟨gm, 4, none⟩ = some (.slice none 0 0) := hmB.cell 4
        clear hm9 hsi9 hmB hgB hsiB hCU hsl hX hXB hmC hgBC hgC hslC y1e y2e
        go_wp2_with fail
        go_meet
        obtain ⟨t, a, o, X', n, c', V, r⟩ := HR.out
        exact ⟨t, a, o, X', n, c', V, trivial, r⟩
    case rest =>
      obtain ⟨t, ak, o, X, nX, cX, V, _, hmc, hmm, hsx, hlx, hgc⟩ := hcut
      have hg6m : w6.heap.size ≤ gm := by have := HL1.out; have := H7M.out; omega
      have hbc : Below w0.heap.size w0 wc := below_only HB9.out hgc HB9.out.size HG0.out
      have hhc := HH9.out.grow hgc (fun e => by injection e with e; have := HG8'.out; omega)
      have hgmc : gm < wc.heap.size := hmc.lt
      have h0c : w.heap.size ≤ wc.heap.size := by have := hbc.size; have := HS0.out; omega
      have HBC := Lib.hid hbc; have HHC := Lib.hid hhc; have HMC := Lib.hid hmc; have HMM := Lib.hid hmm; have HSX := Lib.hid hsx; have HLX := Lib.hid hlx
      have HPG := Lib.hid (fun (a : Nat) W (hW : Below w.heap.size w W) (h : a ≤ 8 * xs.length) => pget_any A c xs (a : Nat) W (HA.out W hW) HBY.out (by omega) (by omega) (by omega))
      rw [HSS.out] at HPG
      have HPX := HG5.out
      obtain ⟨⟨PL, pe⟩, hPE⟩ : ∃ X, packsE S (a0 : Nat) = X := ⟨_, rfl⟩
      rw [hPE] at HPX
      unfold packsE at hPE
      have HT5 := Lib.hid HPX; have HPE := Lib.hid hPE
      simp only at HT5
      have HSZ : Hid (w.heap.size + 2 ≤ w6.heap.size ∧ w6.heap.size ≤ gm ∧ w0.heap.size ≤ w6.heap.size ∧ g8 < w6.heap.size) := Lib.hid ⟨by have := HB6.out.size; have := HS0.out; omega, hg6m, HB6.out.size, HG8'.out⟩
      have HGN : Hid (g8 ≠ gm ∧ g8 < wc.heap.size) := Lib.hid ⟨by have := HG8'.out; omega, by have := HG8'.out; omega⟩
      have hSl : S.length = 8 * xs.length := HBL.out
      clear hbc hhc hmc hmm hsx hlx hgc HPX hPE HG5 HM9 HSI9 HH9 HB9 HMK HAT HLE HNE HL1 H7M HB1M HG8' HS6 HB6 HH6 HY1 HY2 hg6m HG0 HNV HM96 HMI HSL HKK HG8 x00 x01 hj hm7
      go_wp2
      go_loopw [22] (fun s22 wr => ∃ (a m F : Nat) (A6 : Option Addr) (c6 : Nat) (l : List PkE), s22 = .int .i64 (a : Nat) ∧ a ≤ 8 * xs.length ∧ 8 * xs.length < a + F ∧ 21 * m ≤ a ∧ packsG S (S.length + 1) a0 = pgJoin (pkPlain l) (packsG S F a) ∧ Has wr gm 25 #[.int .i64 id, .int .i64 t, .int .i64 ak, .int .i64 o, .slice X nX cX, .slice A6 m c6] ∧ OwP wc.heap.size wc.heap.size wr A6 m c6 l ∧ wc.grownBy wr (some gm)) (fun s22 _ => 8 * xs.length - (intOf s22).toNat)
      case atStart => exact ⟨a0, 0, S.length + 1, none, 0, [], by go_num, ha08, by omega, by omega, pg_start _ _ _, HMC.out, OwP.nil _ _ _, only_refl _ _⟩
      case round =>
        obtain ⟨a, m, F, A8, c8, l, rfl, ha, hF, hm, hpg, hmr, ho, hgr⟩ := hrel
        have hbr : Below w0.heap.size w0 wr := below_only HBC.out hgr HBC.out.size (by have := HSZ.out; omega)
        have hbrw := HB0.out.trans (hbr.mono (by have := HS0.out; omega))
        have hrs := hgr.size
        have HPI := Lib.hid hpg; have HMR := Lib.hid hmr; have HO := Lib.hid ho; have HGR := Lib.hid hgr; have HBR := Lib.hid hbr; have HBRW := Lib.hid hbrw
        clear hpg hmr ho hgr hbr hbrw
        obtain ⟨F, rfl⟩ : ∃ f, F = f + 1 := ⟨F - 1, by omega⟩
        by_cases hlt : a + 8 ≤ 8 * xs.length
        · have hx8 : ¬ ((S.length : Int) - (a : Nat) < 8) := by rw [hSl]; omega
          have hga := HPG.out a wr HBRW.out ha
          obtain ⟨⟨⟨pid, pV⟩, e, ee⟩, hG⟩ : ∃ G, getF S (a : Nat) = G := ⟨_, rfl⟩
          rw [hG] at hga
          have hst : ee = 0 → 0 ≤ (a : Int) ∧ (a : Int) + 21 ≤ e ∧ e ≤ S.length ∧ pV.length ≤ 8184 := fun he => by
            have h := get_step (bits := S) (a := (a : Nat)) (by rw [hG]; exact he)
            rw [hG] at h
            exact h
          have hbad : ee ≠ 0 → packsG S (S.length + 1) a0 = ([], 0, ee) := fun he => by
            rw [HPI.out]
            have h := pg_bad (pkPlain l) F hx8 (by rw [hG]; exact he)
            rw [hG] at h
            exact h
          have hgood : ee = 0 → packsG S (S.length + 1) a0 = pgJoin (pkPlain l ++ [(pid, pV)]) (packsG S F e) := fun he => by
            rw [HPI.out]
            have h := pg_step (pkPlain l) F hx8 (by rw [hG]; simp [he])
            rw [hG] at h
            exact h
          have HGA := Lib.hid hga; have HST := Lib.hid hst; have HBAD := Lib.hid hbad; have HGOOD := Lib.hid hgood
          clear hga hst hbad hgood hG hx8 HPI
          simp only at HGA
          have x0 : (8 : Int) ≤ 8 * (xs.length : Int) - (a : Int) := by omega
          go_wp2_with fail
          refine HGA.out.mono ?_
          rintro e7 wd ⟨Ad, nd, cd, rfl, hsd, hbd, hld⟩
          obtain ⟨we, hwe⟩ : ∃ we, wd.alloc (.cells #[.int .i64 pid, .slice Ad nd cd] 39) = we := ⟨_, rfl⟩
          obtain ⟨gp, hgp⟩ : ∃ gp, wd.heap.size = gp := ⟨_, rfl⟩
          have hbe : Below wd.heap.size wd we := by rw [← hwe]; exact (Below.refl _ _).alloc (Nat.le_refl _) _
          have hpe : Has we gp 39 #[.int .i64 pid, .slice Ad nd cd] := by rw [← hwe, ← hgp]; exact Has.made _ _ _
          have hoe := (HO.out.under hbd).under hbe
          have hse := sliUnder hsd hbe
          have hap : 0 < cd → ∀ x, Ad = some x → wc.heap.size ≤ x.block ∧ some x.block ≠ Value.ownBlock (.slice A8 m c8) := fun _ x hx => ⟨Nat.le_trans hrs (hld x hx), fun e => by
            have h1 := hld x hx
            have h2 := (HO.out.own.lt x.block e.symm).2
            omega⟩
          have hme := (HMR.out.under hbd HMR.out.lt).under hbe (by have := HMR.out.lt; have := hbd.size; omega)
          have hbre : Below wr.heap.size wr we := hbd.trans (hbe.mono hbd.size)
          have hbwe := HBR.out.trans (hbre.mono HBR.out.size)
          have HOE := Lib.hid hoe; have HSE := Lib.hid hse; have HAP := Lib.hid hap; have HME := Lib.hid hme; have HBE := Lib.hid hbwe; have HBRE := Lib.hid hbre; have HPE2 := Lib.hid hpe
          have HND := Lib.hid hsd.len
          clear hsd hbd hld hbe hpe hoe hse hap hme hbre hbwe HGA HO HMR
          by_cases he : ee = 0
          rotate_left
          · have hpb := HPE.out
            rw [HBAD.out he, if_pos he] at hpb
            injection hpb with hpb1 hpb2
            have hTT : T = (mzero, ee) := by rw [HT5.out, ← hpb2, if_pos he]
            subst hTT
            have e2 : (ee != 0) = true := by simp [he]
            have e3 : (ee == 0) = false := by simp [he]
            clear he hpb1 hpb2 HT5 HPE HST HBAD HGOOD HOE HSE HAP HME HBRE HPE2 HND HBR HBRW HGR HPG HFF HA HBY HBI HHC HMC HMM HSX HLX HK HSS
            have hz := HZ0.out.under HBE.out HZ0.out.lt
            have hn := HN0.out.under HBE.out HN0.out.lt
            have hs0 := HS0.out
            have q0 : we.cell? ⟨w.heap.size + 1, 0, none⟩ = some (.int .i64 0) := hn.cell 0
            have q1 : we.cell? ⟨w.heap.size + 1, 1, none⟩ = some (.int .i64 0) := hn.cell 1
            have q2 : we.cell? ⟨w.heap.size + 1, 2, none⟩ = some (.int .i64 0) := hn.cell 2
            have q3 : we.cell? ⟨w.heap.size + 1, 3, none⟩ = some (.int .i64 0) := hn.cell 3
            have q4 : we.cell? ⟨w.heap.size + 1, 4, none⟩ = some (.slice none 0 0) := hn.cell 4
            have q5 : we.cell? ⟨w.heap.size + 1, 5, none⟩ = some (.slice none 0 0) := hn.cell 5
            have HE : Hid (we.heap[w.heap.size]? = some (.cells #[.int .i64 0, .int .i64 0, .int .i64 0, .int .i64 0, .slice none 0 0, .slice none 0 0] 25 (0, 0))) := Lib.hid hz
            have HF := Lib.hid (has_setRow hz #[.int .i64 0, .int .i64 0, .int .i64 0, .int .i64 0, .slice none 0 0, .slice none 0 0])
            have HBF := Lib.hid (below_row (g := w.heap.size) (HB0.out.trans (HBE.out.mono (by omega))) (Nat.le_refl _) #[.int .i64 0, .int .i64 0, .int .i64 0, .int .i64 0, .slice none 0 0, .slice none 0 0])
            clear hz hn hs0
            go_wp2_with (with_reducible refine wpList_store_rowTo (o := ⟨none, _, _, _, _, _⟩) rfl 25 _ _ rfl rfl w.heap.size #[.int .i64 0, .int .i64 0, .int .i64 0, .int .i64 0, .slice none 0 0, .slice none 0 0] rfl rfl 25 _ HE.out (by kernel_rfl) (by kernel_rfl) (by kernel_rfl) ?_)
            refine bodyPost_ret (results_row_tmp rfl _ _ w.heap.size 25 _ _ rfl HF.out Tryd.underlying25 rfl (by kernel_rfl)) rfl ?_
            exact dc_zero ee HBF.out
          subst he
          obtain ⟨j1, j2, j3, j4⟩ := HST.out rfl
          obtain ⟨en, hen⟩ : ∃ en : Nat, e = en := ⟨e.toNat, by omega⟩
          subst hen
          have HGOOD2 := Lib.hid (HGOOD.out rfl)
          have p0 : we.cell? ⟨gp, 0, none⟩ = some (.int .i64 pid) := HPE2.out.cell 0
          have p1 : we.cell? ⟨gp, 1, none⟩ = some (.slice Ad nd cd) := HPE2.out.cell 1
          have m5c : we.cell? ⟨gm, 5, none⟩ = some (.slice A8 m c8) := HME.out.cell 5
          have hbf : Below we.heap.size we (we.alloc (.cells #[.int .i64 pid, .slice Ad nd cd] 39)) := (Below.refl _ _).alloc (Nat.le_refl _) _
          have HOF := Lib.hid (HOE.out.under hbf)
          have HSF := Lib.hid (sliUnder HSE.out hbf)
          have HMF := Lib.hid (HME.out.under hbf HME.out.lt)
          have HOW : Hid ((we.alloc (.cells #[.int .i64 pid, .slice Ad nd cd] 39)).ownsRow wc.heap.size 39 2 (.slice A8 m c8) m (pkCells l)) := Lib.hid HOF.out.own
          have HBF := Lib.hid (HBE.out.trans (hbf.mono HBE.out.size))
          have HBRF := Lib.hid (HBRE.out.trans (hbf.mono HBRE.out.size))
          have HNWP : Hid (∀ i u, ([.int .i64 pid, .slice Ad nd cd] : List Value)[i]? = some u → (we.alloc (.cells #[.int .i64 pid, .slice Ad nd cd] 39)).cell? ((⟨we.heap.size, 0, none⟩ : Addr).add i) = some u) := cell_news we #[.int .i64 pid, .slice Ad nd cd] 39 [.int .i64 pid, .slice Ad nd cd] rfl
          have H1CP : Hid (∀ u ∈ ([.int .i64 pid, .slice Ad nd cd] : List Value), u.oneCell' = true) := Lib.hid (fun u hu => by simp at hu; rcases hu with rfl | rfl <;> rfl)
          have hwcf : wc.heap.size ≤ (we.alloc (.cells #[.int .i64 pid, .slice Ad nd cd] 39)).heap.size := by have := HBRF.out.size; omega
          have HBDP : Hid (m + 1 ≤ maxLen ∧ (m + 1) * 32 ≤ 140737488355328 ∧ wc.heap.size ≤ (we.alloc (.cells #[.int .i64 pid, .slice Ad nd cd] 39)).heap.size) := Lib.hid ⟨by unfold maxLen; omega, by omega, hwcf⟩
          have HLENP : Hid (([.int .i64 pid, .slice Ad nd cd] : List Value).length = 1 * 2) := Lib.hid rfl
          clear hbf hwcf HST HBAD HGOOD HOE HSE HME HBE HBRE HPE2
          go_wp2_with (with_reducible refine wpList_push2 (o := ⟨some 155, _, _, _, _, _⟩) rfl (.tmp 152) (.tmp 154) 23 rfl wc.heap.size 39 (.agg #[.int .i64 0, .slice none 0 0]) 2 32 Tryd.underlying23 info_pkt ?hz2 (by decide) A8 m c8 (pkCells l) ?hs2 HOW ⟨we.heap.size, 0, none⟩ 1 1 [.int .i64 pid, .slice Ad nd cd] ?hx2 HLENP HNWP H1CP HBDP ?next2)
          all_goals try rfl
          case next2 =>
            intro A9 c9 wg hog hgg hlg
            have hmg := HMF.out.grow hgg.out (fun e => own_apart HOW.out HMF.out (by decide) e.symm)
            have hog2 := HOF.out.push (x := ⟨pid, Ad, nd, cd, pV⟩) HSF.out (by have := HND.out; show nd ≤ 8184; omega) HAP.out hog.out hgg.out (by simpa using hlg.out)
            have f5 := hmg.thaw 5
            have k5 : wg.cell? ⟨gm, 5, none⟩ = some (.slice A8 m c8) := hmg.cell 5
            have hgg2 : wc.grownBy wg (some gm) := only_own (only_trans HGR.out (only_below HBRF.out (Nat.le_refl _) (some gm))) hgg.out (fun k hk => (HOW.out.lt k hk).1)
            obtain ⟨wh, hwh⟩ : ∃ wh, wg.setCell ⟨gm, 5, none⟩ (.slice A9 (m + 1) c9) = wh := ⟨_, rfl⟩
            have hghh : wg.grownBy wh (some gm) := by rw [← hwh]; exact only_store (only_refl _ _) rfl _
            have HMH : Hid (Has wh gm 25 #[.int .i64 id, .int .i64 t, .int .i64 ak, .int .i64 o, .slice X nX cX, .slice A9 (m + 1) c9]) := Lib.hid (by rw [← hwh]; exact hmg.stored 5 _)
            have HOH := Lib.hid (hog2.apart hmg (by decide) hgmc hghh)
            have HGH := Lib.hid (only_trans hgg2 hghh)
            clear hmg hog2 hgg2 hghh hog hgg hlg HOW HOF HSF HMF HBRF
            go_wp2
            go_roundw
            case rel => exact ⟨en, m + 1, F, A9, c9, l ++ [⟨pid, Ad, nd, cd, pV⟩], rfl, by omega, by omega, by omega, by rw [HGOOD2.out]; simp [pkPlain], HMH.out, HOH.out, HGH.out⟩
            case measure => simp [intOf]; omega
        have hpe := HPI.out
        rw [pg_end _ _ (by rw [hSl]; omega)] at hpe
        have hT2 := HPE.out
        rw [hpe, if_neg (by simp)] at hT2
        simp only [Int.toNat_natCast] at hT2
        have HT2 := Lib.hid hT2
        have x0 : ¬ (8 : Int) ≤ 8 * (xs.length : Int) - (a : Int) := by omega
        have HBI7 := Lib.hid (HBI.out wr HBRW.out)
        have HB7 : Hid (Below wr.heap.size wr wr) := Lib.hid (Below.refl _ _)
        have hm1000 : m ≤ 1000 := by omega
        clear hpe hT2 HPI HPE HPG hlt hF hm HBI
        obtain ⟨wd, hwd⟩ : ∃ wd, wr = wd := ⟨_, rfl⟩
        rw [hwd] at HMR HO HGR HBR HBRW HBI7 hrs ⊢
        clear hwd HB7
        go_wp2_with fail
        refine HBI7.out.mono ?_
        rintro e we ⟨Ae, ce, rfl, hoe, hbe⟩
        have hsb : SlB we Ae (8 * xs.length) ce S := ⟨HBL.out, Sl.of_own hoe⟩
        have HSB := Lib.hid hsb
        have HBE := Lib.hid (HBR.out.trans (hbe.mono HBR.out.size))
        have HBDE := Lib.hid hbe
        clear hoe hbe hsb HBI7
        go_wp2
        go_loopw [27] (fun s27 wq => ∃ i : Nat, s27 = .int .i64 (i : Nat) ∧ a ≤ i ∧ i ≤ 8 * xs.length ∧ (∀ k, a ≤ k → k < i → S.getD k false = false) ∧ wq = we) (fun s27 _ => 8 * xs.length - (intOf s27).toNat)
        case atStart => exact ⟨a, rfl, Nat.le_refl _, ha, fun k h1 h2 => absurd h2 (by omega), rfl⟩
        case round =>
          obtain ⟨i, rfl, hai, hi8, hno, hwq⟩ := hrel
          have HNO := Lib.hid hno
          clear hno
          subst hwq
          by_cases hil : i < 8 * xs.length
          · obtain ⟨bb, ob, hAe, fe⟩ := sl_bool HSB.out (j := i) hil
            subst hAe
            have hbi : S.getD i false = true ∨ S.getD i false = false := by cases S.getD i false <;> simp
            have y0 : (0 : Int) ≤ i := by omega
            have y1 : (i : Int) < 8 * (xs.length : Int) := by omega
            rcases hbi with hbi | hbi
            · have han : (S.drop a).any (fun b => b) = true := any_drop hai (by rw [hSl]; exact hil) (by rw [List.getD_eq_getElem?_getD, List.getElem?_eq_getElem (by rw [hSl]; exact hil)] at hbi; simpa using hbi)
              have hpb := HT2.out
              rw [if_pos han] at hpb
              injection hpb with hpb1 hpb2
              have hTT : T = (mzero, 8) := by rw [HT5.out, ← hpb2, if_pos (by decide)]
              subst hTT
              rw [hbi] at fe
              clear han hpb1 hpb2 HT5 HT2 HNO HSB HO HMR HGR HBDE HBR HBRW HFF HA HBY HHC HMC HMM HSX HLX HK HSS
              have hz := HZ0.out.under HBE.out HZ0.out.lt
              have hn := HN0.out.under HBE.out HN0.out.lt
              have hs0 := HS0.out
              have q0 : wr.cell? ⟨w.heap.size + 1, 0, none⟩ = some (.int .i64 0) := hn.cell 0
              have q1 : wr.cell? ⟨w.heap.size + 1, 1, none⟩ = some (.int .i64 0) := hn.cell 1
              have q2 : wr.cell? ⟨w.heap.size + 1, 2, none⟩ = some (.int .i64 0) := hn.cell 2
              have q3 : wr.cell? ⟨w.heap.size + 1, 3, none⟩ = some (.int .i64 0) := hn.cell 3
              have q4 : wr.cell? ⟨w.heap.size + 1, 4, none⟩ = some (.slice none 0 0) := hn.cell 4
              have q5 : wr.cell? ⟨w.heap.size + 1, 5, none⟩ = some (.slice none 0 0) := hn.cell 5
              have HE : Hid (wr.heap[w.heap.size]? = some (.cells #[.int .i64 0, .int .i64 0, .int .i64 0, .int .i64 0, .slice none 0 0, .slice none 0 0] 25 (0, 0))) := Lib.hid hz
              have HF := Lib.hid (has_setRow hz #[.int .i64 0, .int .i64 0, .int .i64 0, .int .i64 0, .slice none 0 0, .slice none 0 0])
              have HBF := Lib.hid (below_row (g := w.heap.size) (HB0.out.trans (HBE.out.mono (by omega))) (Nat.le_refl _) #[.int .i64 0, .int .i64 0, .int .i64 0, .int .i64 0, .slice none 0 0, .slice none 0 0])
              clear hz hn hs0
              go_wp2_with (with_reducible refine wpList_store_rowTo (o := ⟨none, _, _, _, _, _⟩) rfl 25 _ _ rfl rfl w.heap.size #[.int .i64 0, .int .i64 0, .int .i64 0, .int .i64 0, .slice none 0 0, .slice none 0 0] rfl rfl 25 _ HE.out (by kernel_rfl) (by kernel_rfl) (by kernel_rfl) ?_)
              refine bodyPost_ret (results_row_tmp rfl _ _ w.heap.size 25 _ _ rfl HF.out Tryd.underlying25 rfl (by kernel_rfl)) rfl ?_
              exact dc_zero 8 HBF.out
            · have HNO2 : Hid (∀ k, a ≤ k → k < i + 1 → S.getD k false = false) := Lib.hid (fun k h1 h2 => by
                by_cases hk : k = i
                · rw [hk]; exact hbi
                · exact HNO.out k h1 (by omega))
              rw [hbi] at fe
              go_wp2
              go_roundw
              case rel => exact ⟨i + 1, by go_num, by omega, by omega, HNO2.out, trivial⟩
              case measure => simp [intOf]; omega
          have han : (S.drop a).any (fun b => b) = false := none_drop (fun k h1 h2 => HNO.out k h1 (by omega))
          have hpb := HT2.out
          rw [if_neg (by rw [han]; decide)] at hpb
          injection hpb with hpb1 hpb2
          have HT6 : Hid (T = if fitsF id (PL.map Prod.fst) = false then (mzero, 50) else (mkMsg id N PL, 0)) := Lib.hid (by rw [HT5.out, ← hpb2, if_neg (by decide)])
          have hids : pkIds l = PL.map Prod.fst := by rw [← hpb1]; simp [pkIds, pkPlain]
          have y1 : ¬ (i : Int) < 8 * (xs.length : Int) := by omega
          have hsk := HO.out.slk.under HBDE.out
          have hff := HFF.out A8 m c8 l wr hsk (Nat.le_trans hm1000 (by decide))
          rw [hids] at hff
          have HF7 := Lib.hid hff; have HSK := Lib.hid hsk
          have hhq := (HHC.out.grow HGR.out (fun e => by injection e with e; exact HGN.out.1 e)).under HBDE.out (Nat.lt_of_lt_of_le HGN.out.2 hrs)
          have hmq := HMR.out.under HBDE.out HMR.out.lt
          have z0 : wr.cell? ⟨g8, 0, none⟩ = some (.string R.own) := hhq.cell 0
          have z1 : wr.cell? ⟨g8, 1, none⟩ = some (.string R.must) := hhq.cell 1
          have z2 : wr.cell? ⟨g8, 2, none⟩ = some (.string R.may) := hhq.cell 2
          have z5 : wr.cell? ⟨gm, 5, none⟩ = some (.slice A8 m c8) := hmq.cell 5
          have HMQ := Lib.hid hmq
          have hsxq := sliUnder (HSX.out.grow HGR.out (fun _ a' h e => by injection e with e; exact (HLX.out a' h).2 e)) HBDE.out
          have HSXQ := Lib.hid hsxq
          have HEA : Hid (∀ p ∈ l, p.n ≤ 8184 ∧ (0 < p.c → ∀ a, p.A = some a → wc.heap.size ≤ a.block)) := Lib.hid (fun p hp => ⟨(HO.out.each p hp).2.1, fun hc a ha => ((HO.out.each p hp).2.2 hc a ha).1⟩)
          have HLA : Hid (∀ a, A8 = some a → wc.heap.size ≤ a.block) := Lib.hid (fun a h => (HO.out.own.lt a.block (by rw [h]; rfl)).1)
          have HPB := Lib.hid hpb1
          generalize fitsF id (PL.map Prod.fst) = ff at *
          clear hff hsk hhq hmq hsxq han hpb1 hpb2 HT5 HT2 HNO HSB HO HMR HGR HBDE HBR HBRW HFF HA HBY HHC HMC HSX HSS
          go_wp2_with fail
          refine HF7.out.mono ?_
          rintro e wx ⟨rfl, hbx⟩
          have HBX := Lib.hid (HBE.out.trans (hbx.mono HBE.out.size))
          have HMX := Lib.hid (HMQ.out.under hbx HMQ.out.lt)
          have HSXX := Lib.hid (sliUnder HSXQ.out hbx)
          have HSKX := Lib.hid (HSK.out.under hbx)
          clear hbx HF7 HMQ HSXQ HSK z0 z1 z2 z5 HBE
          cases ff
          · have hTT : T = (mzero, 50) := by rw [HT6.out, if_pos rfl]
            subst hTT
            clear HT6 HMX HSXX HSKX HEA HLA HPB HMM HLX
            have hz := HZ0.out.under HBX.out HZ0.out.lt
            have hn := HN0.out.under HBX.out HN0.out.lt
            have hs0 := HS0.out
            have q0 : wx.cell? ⟨w.heap.size + 1, 0, none⟩ = some (.int .i64 0) := hn.cell 0
            have q1 : wx.cell? ⟨w.heap.size + 1, 1, none⟩ = some (.int .i64 0) := hn.cell 1
            have q2 : wx.cell? ⟨w.heap.size + 1, 2, none⟩ = some (.int .i64 0) := hn.cell 2
            have q3 : wx.cell? ⟨w.heap.size + 1, 3, none⟩ = some (.int .i64 0) := hn.cell 3
            have q4 : wx.cell? ⟨w.heap.size + 1, 4, none⟩ = some (.slice none 0 0) := hn.cell 4
            have q5 : wx.cell? ⟨w.heap.size + 1, 5, none⟩ = some (.slice none 0 0) := hn.cell 5
            have HE : Hid (wx.heap[w.heap.size]? = some (.cells #[.int .i64 0, .int .i64 0, .int .i64 0, .int .i64 0, .slice none 0 0, .slice none 0 0] 25 (0, 0))) := Lib.hid hz
            have HF := Lib.hid (has_setRow hz #[.int .i64 0, .int .i64 0, .int .i64 0, .int .i64 0, .slice none 0 0, .slice none 0 0])
            have HBF := Lib.hid (below_row (g := w.heap.size) (HB0.out.trans (HBX.out.mono (by omega))) (Nat.le_refl _) #[.int .i64 0, .int .i64 0, .int .i64 0, .int .i64 0, .slice none 0 0, .slice none 0 0])
            clear hz hn hs0
            go_wp2_with (with_reducible refine wpList_store_rowTo (o := ⟨none, _, _, _, _, _⟩) rfl 25 _ _ rfl rfl w.heap.size #[.int .i64 0, .int .i64 0, .int .i64 0, .int .i64 0, .slice none 0 0, .slice none 0 0] rfl rfl 25 _ HE.out (by kernel_rfl) (by kernel_rfl) (by kernel_rfl) ?_)
            refine bodyPost_ret (results_row_tmp rfl _ _ w.heap.size 25 _ _ rfl HF.out Tryd.underlying25 rfl (by kernel_rfl)) rfl ?_
            exact dc_zero 50 HBF.out
          have hTT : T = (mkMsg id N PL, 0) := by rw [HT6.out, if_neg (by decide)]
          subst hTT
          have hz := HZ0.out.under HBX.out HZ0.out.lt
          have hmx := HMX.out
          have v0 : wx.cell? ⟨gm, 0, none⟩ = some (.int .i64 id) := hmx.cell 0
          have v1 : wx.cell? ⟨gm, 1, none⟩ = some (.int .i64 t) := hmx.cell 1
          have v2 : wx.cell? ⟨gm, 2, none⟩ = some (.int .i64 ak) := hmx.cell 2
          have v3 : wx.cell? ⟨gm, 3, none⟩ = some (.int .i64 o) := hmx.cell 3
          have v4 : wx.cell? ⟨gm, 4, none⟩ = some (.slice X nX cX) := hmx.cell 4
          have v5 : wx.cell? ⟨gm, 5, none⟩ = some (.slice A8 m c8) := hmx.cell 5
          have hgz := grown_setRow wx w.heap.size #[.int .i64 id, .int .i64 t, .int .i64 ak, .int .i64 o, .slice X nX cX, .slice A8 m c8]
          have hs0 := HS0.out; have hsz := HSZ.out
          have HSV7 := Lib.hid (HSXX.out.grow hgz (fun _ a' h e => by injection e with e; have := (HLX.out a' h).1; omega))
          have HSK7 := Lib.hid (HSKX.out.grow hgz (fun a' h e => by have := HLA.out a' h; omega) (fun p hp hc a' h e => by have := (HEA.out p hp).2 hc a' h; omega))
          have HE : Hid (wx.heap[w.heap.size]? = some (.cells #[.int .i64 0, .int .i64 0, .int .i64 0, .int .i64 0, .slice none 0 0, .slice none 0 0] 25 (0, 0))) := Lib.hid hz
          have HF := Lib.hid (has_setRow hz #[.int .i64 id, .int .i64 t, .int .i64 ak, .int .i64 o, .slice X nX cX, .slice A8 m c8])
          have HBF := Lib.hid (below_row (g := w.heap.size) (HB0.out.trans (HBX.out.mono (by omega))) (Nat.le_refl _) #[.int .i64 id, .int .i64 t, .int .i64 ak, .int .i64 o, .slice X nX cX, .slice A8 m c8])
          have HMM2 : Hid (msgOf id t ak o V l = mkMsg id N PL) := Lib.hid (by rw [← HPB.out]; exact HMM.out _)
          clear hz hmx hgz hs0 hsz HT6 HMX HSXX HSKX HLA HPB HMM HLX HBX
          go_wp2_with (with_reducible refine wpList_store_rowTo (o := ⟨none, _, _, _, _, _⟩) rfl 25 _ _ rfl rfl w.heap.size #[.int .i64 id, .int .i64 t, .int .i64 ak, .int .i64 o, .slice X nX cX, .slice A8 m c8] rfl rfl 25 _ HE.out (by kernel_rfl) (by kernel_rfl) (by kernel_rfl) ?_)
          refine bodyPost_ret (results_row_tmp rfl _ _ w.heap.size 25 _ _ rfl HF.out Tryd.underlying25 rfl (by kernel_rfl)) rfl ?_
          unfold DcPost
          exact ⟨id, t, ak, o, X, nX, cX, A8, m, c8, V, l, rfl, HMM2.out, HSV7.out, HSK7.out, hm1000, fun p hp => (HEA.out p hp).1, HBF.out⟩
end Go.Proofs.YtamnhnleipnhdaaDoor
