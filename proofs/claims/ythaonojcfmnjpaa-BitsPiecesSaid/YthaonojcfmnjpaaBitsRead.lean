/-
  bits.Read, and (*bits.Reader).Left, At, Get.
-/
import Derived.Test.YthaonojcfmnjpaaBitsBytes
import Derived.Deep.QuietTactic
import Derived.BigQuiet
namespace Go.Proofs.Ythaonojcfmnjpaa
open Go.RowKit
open BitsM

/-- Bit p of some bytes. -/
def bitAt (xs : List Nat) (p : Nat) : Bool := (xs.getD (p / 8) 0).testBit (7 - p % 8)
def bitsFrom (xs : List Nat) (p k : Nat) : List Bool := (List.range k).map fun i => bitAt xs (p + i)
theorem bitsFrom_zero (xs : List Nat) (p : Nat) : bitsFrom xs p 0 = [] := rfl
theorem bitsFrom_succ (xs : List Nat) (p k : Nat) : bitsFrom xs p (k + 1) = bitsFrom xs p k ++ [bitAt xs (p + k)] := by simp [bitsFrom, List.range_succ]
theorem bitsFrom_length (xs : List Nat) (p k : Nat) : (bitsFrom xs p k).length = k := by simp [bitsFrom]

/-- Block g is a reader of the bytes xs, which block g2 holds, that has consumed p bits. -/
def IsRd (w : World) (g g2 : Nat) (xs : List Nat) (p : Nat) : Prop :=
  g2 ≠ g ∧ Has w g 56 #[.slice (some ⟨g2, 0, none⟩) xs.length xs.length, .int .i64 p] ∧ Has w g2 5 (u8s xs).toArray ∧ p ≤ 8 * xs.length ∧ xs.length ≤ 1048576 ∧ ∀ x ∈ xs, x < 256
/-- Block g is a reader of the bytes xs that has consumed p bits. -/
def IsR (w : World) (g : Nat) (xs : List Nat) (p : Nat) : Prop := ∃ g2, IsRd w g g2 xs p

theorem left_none (w : World) : Calls Try.prog 20 #[.pointer none] w fun e w' => e = .returned (.int .i64 0) ∧ w = w' := by
  go_enter Try.func20, Try.ntmps20
  go_wp2
  go_ret
  exact ⟨rfl, rfl⟩
theorem at_none (w : World) : Calls Try.prog 21 #[.pointer none] w fun e w' => e = .returned (.int .i64 0) ∧ w = w' := by
  go_enter Try.func21, Try.ntmps21
  go_wp2
  go_ret
  exact ⟨rfl, rfl⟩
theorem at_any (g : Nat) (xs : List Nat) (p : Nat) (w : World) (hr : IsR w g xs p) :
    Calls Try.prog 21 #[.pointer (some ⟨g, 0, none⟩)] w fun e w' => e = .returned (.int .i64 p) ∧ w = w' := by
  obtain ⟨g2, hne, hg, h2, hp, hx, hb⟩ := hr
  have hc : w.cell? ⟨g, 1, none⟩ = some (.int .i64 p) := by rw [hg.cell]; rfl
  go_enter Try.func21, Try.ntmps21
  go_wp2
  go_ret
  exact ⟨rfl, rfl⟩
theorem left_any (g : Nat) (xs : List Nat) (p : Nat) (w : World) (hr : IsR w g xs p) :
    Calls Try.prog 20 #[.pointer (some ⟨g, 0, none⟩)] w fun e w' => e = .returned (.int .i64 ((8 * xs.length - p : Nat) : Int)) ∧ ∃ m, w' = w.drewN m := by
  obtain ⟨g2, hne, hg, h2, hp, hx, hb⟩ := hr
  have hc : w.cell? ⟨g, 1, none⟩ = some (.int .i64 p) := by rw [hg.cell]; rfl
  have hc0 : w.cell? ⟨g, 0, none⟩ = some (.slice (some ⟨g2, 0, none⟩) xs.length xs.length) := by rw [hg.cell]; rfl
  have e1 : IntKind.i64.wrap (8 * (xs.length : Int)) = 8 * (xs.length : Int) := IntWalk.i64_in _ (by omega)
  have e2 : IntKind.i64.wrap (8 * (xs.length : Int) - p) = ((8 * xs.length - p : Nat) : Int) := by
    rw [IntWalk.i64_in _ (by omega)]; omega
  go_enter Try.func20, Try.ntmps20
  go_wp2_with fail
  go_quiet (fail)
  go_wp2
  go_ret
  exact ⟨rfl, nq, rfl⟩

set_option maxHeartbeats 400000 in
theorem read_new (A : Option Addr) (c : Nat) (xs : List Nat) (w : World) (ha : At8 w A xs) (hx : xs.length ≤ 1048576) (hb : ∀ x ∈ xs, x < 256) :
    Calls Try.prog 16 #[.slice A xs.length c] w fun e w' =>
      ∃ g g2, e = .returned (.pointer (some ⟨g, 0, none⟩)) ∧ w.heap.size ≤ g ∧ w.heap.size ≤ g2 ∧ IsRd w' g g2 xs 0 ∧ Below w.heap.size w w' := by
  obtain ⟨n, hn⟩ : ∃ n, n = xs.length := ⟨_, rfl⟩
  have hmk : ∀ w, (Instr.makeSlice 36 (.int .i64 (n : Int)) (.int .i64 (n : Int))).run Try.prog w = .ok (.slice (some ⟨w.heap.size, 0, none⟩) n n) (w.alloc (.cells (madeCells #[.int .u8 0] n) 5)) := by
    intro w
    exact run_make_row' (P := Try.prog) 36 5 (.int .u8 0) 1 Try.underlying36 info_u8 rfl .i64 .i64 n (by omega) (by omega) w
  have HM : Hid ((w.alloc (.cells (madeCells #[.int .u8 0] n) 5)).heap[w.heap.size]? = some (.cells (List.replicate n (.int .u8 0)).toArray 5 (0, 0))) := made_row w _ _ _
  have HC : Hid ((u8s xs).length = Nat.min n n) := by
    show _ = min n n
    rw [u8s_length]; omega
  have HF : Hid (0 + (u8s xs).length ≤ (List.replicate n (Value.int .u8 0)).length) := by
    show _ ≤ _
    rw [u8s_length]; simp; omega
  have HP : Hid (0 < (u8s xs).length → (some ⟨w.heap.size, 0, none⟩ : Option Addr) = some ⟨w.heap.size, 0, none⟩ ∧ ∃ ad, A = some ad ∧
      ∀ j v, (u8s xs)[j]? = some v → (w.alloc (.cells (madeCells #[.int .u8 0] n) 5)).cell? (ad.add j) = some v) := by
    intro hpos
    rw [u8s_length] at hpos
    obtain ⟨ad, e, hc⟩ := at8_alloc ha (.cells (madeCells #[.int .u8 0] n) 5) hpos
    exact ⟨rfl, ad, e, hc⟩
  have HB := Lib.hid hb; clear hb
  have HA := Lib.hid ha; clear ha
  rw [← hn]
  have HN := Lib.hid hn; clear hn
  go_enter Try.func16, Try.ntmps16
  go_wp2_with (with_reducible refine wpList_copy_splice (o := ⟨some 9, _, _, _, _, _⟩) rfl (.tmp 7) (.tmp 8) 36 36 rfl 5 Try.underlying36 size_u8 (some ⟨w.heap.size, 0, none⟩) A n n n c ?hd ?hs w.heap.size 0 (List.replicate n (.int .u8 0)) 5 HM.out (u8s xs) HC.out HP.out HF.out (u8s_one _) w.heap.size w (Below.alloc (Below.refl _ _) (Nat.le_refl _) _) (Nat.le_refl _) ?next)
  case next =>
    intro w1 H1 hb1
    have h1 : Has w1 w.heap.size 5 (u8s xs).toArray := by
      have := H1.out
      rw [splice_all _ _ (by rw [u8s_length]; have := HN.out; simp; omega)] at this
      exact this
    clear H1
    have HH := Lib.hid h1; clear h1
    go_wp2
    go_ret
    refine ⟨w1.heap.size, w.heap.size, rfl, hb1.size, Nat.le_refl _, ⟨?_, ?_, HH.out.beside _, by omega, hx, HB.out⟩, hb1.alloc hb1.size _⟩
    · have := HH.out.lt
      omega
    · rw [← HN.out]
      exact Has.made _ _ _

theorem read_any (A : Option Addr) (c : Nat) (xs : List Nat) (w : World) (ha : At8 w A xs) (hx : xs.length ≤ 1048576) (hb : ∀ x ∈ xs, x < 256) :
    Calls Try.prog 16 #[.slice A xs.length c] w fun e w' =>
      ∃ g, e = .returned (.pointer (some ⟨g, 0, none⟩)) ∧ w.heap.size ≤ g ∧ IsR w' g xs 0 ∧ Below w.heap.size w w' :=
  (read_new A c xs w ha hx hb).mono fun _ _ ⟨g, g2, he, h1, _, h3, h4⟩ => ⟨g, he, h1, ⟨g2, h3⟩, h4⟩

set_option maxHeartbeats 400000 in
theorem get_wide (p : Value) (k : Int) (h : k < 1 ∨ 32 < k) (w : World) :
    Calls Try.prog 19 #[p, .int .i64 k] w fun e w' => e = .returned (.tuple #[.int .i64 0, .int .i64 1]) ∧ w = w' := by
  go_enter Try.func19, Try.ntmps19
  go_wp2_with (first | (go_at_call 24; refine (widthFits_no _ h _).mono ?_; rintro e w' ⟨rfl, rfl⟩))
  go_ret2
  exact ⟨rfl, rfl⟩

set_option maxHeartbeats 400000 in
theorem get_none (k : Int) (h1 : 1 ≤ k) (h2 : k ≤ 32) (w : World) :
    Calls Try.prog 19 #[.pointer none, .int .i64 k] w fun e w' => e = .returned (.tuple #[.int .i64 0, .int .i64 10]) ∧ w = w' := by
  go_enter Try.func19, Try.ntmps19
  go_wp2_with (first | (go_at_call 24; refine (widthFits_yes _ h1 h2 _).mono ?_; rintro e w' ⟨rfl, rfl⟩) | (go_at_call 20; refine (left_none _).mono ?_; rintro e w' ⟨rfl, rfl⟩))
  go_ret2
  exact ⟨rfl, rfl⟩

set_option maxHeartbeats 400000 in
theorem get_short (g : Nat) (xs : List Nat) (p : Nat) (k : Int) (h1 : 1 ≤ k) (h2 : k ≤ 32) (w : World) (hr : IsR w g xs p) (hs : ((8 * xs.length - p : Nat) : Int) < k) :
    Calls Try.prog 19 #[.pointer (some ⟨g, 0, none⟩), .int .i64 k] w fun e w' => e = .returned (.tuple #[.int .i64 0, .int .i64 10]) ∧ ∃ m, w' = w.drewN m := by
  go_enter Try.func19, Try.ntmps19
  go_wp2_with (first | (go_at_call 24; refine (widthFits_yes _ h1 h2 _).mono ?_; rintro e w' ⟨rfl, rfl⟩) | (go_at_call 20; refine (left_any g xs p _ hr).mono ?_; rintro e w' ⟨rfl, nl, rfl⟩))
  go_ret2
  exact ⟨rfl, nl, rfl⟩

theorem IsR.under {w w' : World} {g : Nat} {xs : List Nat} {p B : Nat} (h : IsR w g xs p) (hb : Below B w w') (hB : w.heap.size ≤ B) : IsR w' g xs p := by
  obtain ⟨g2, hne, h1, h2, r⟩ := h
  have l1 := h1.lt
  have l2 := h2.lt
  exact ⟨g2, hne, h1.under hb (by omega), h2.under hb (by omega), r⟩
theorem isR_draws {w : World} {g : Nat} {xs : List Nat} {p : Nat} (h : IsR w g xs p) (n : Nat) : IsR (w.drewN n) g xs p := h

set_option maxRecDepth 100000 in
set_option maxHeartbeats 1000000 in
theorem get_fits (g : Nat) (xs : List Nat) (p k : Nat) (h1 : 1 ≤ k) (h2 : k ≤ 32) (w : World) (hr : IsR w g xs p) (hs : p + k ≤ 8 * xs.length) :
    Calls Try.prog 19 #[.pointer (some ⟨g, 0, none⟩), .int .i64 k] w fun e w' =>
      e = .returned (.tuple #[.int .i64 (num (bitsFrom xs p k) : Nat), .int .i64 0]) ∧ IsR w' g xs (p + k) ∧ w.grownBy w' (some g) := by
  have h1' : (1 : Int) ≤ k := by omega
  have h2' : (k : Int) ≤ 32 := by omega
  have hs' : ¬ ((8 * xs.length - p : Nat) : Int) < k := by omega
  go_enter Try.func19, Try.ntmps19
  go_wp2_with (first | (go_at_call 24; refine (widthFits_yes _ h1' h2' _).mono ?_; rintro e w' ⟨rfl, rfl⟩) | (go_at_call 20; refine (left_any g xs p _ hr).mono ?_; rintro e w' ⟨rfl, nl, rfl⟩))
  go_loopw [6, 15] (fun a i wr => ∃ j : Nat, j ≤ k ∧ i = .int .i64 j ∧ a = .int .i64 (num (bitsFrom xs p j) : Nat) ∧ IsR wr g xs (p + j) ∧ w.grownBy wr (some g)) (fun _ i _ => k - (intOf i).toNat)
  case atStart => exact ⟨0, by omega, rfl, rfl, isR_draws hr nl, only_draws (only_refl _ _) nl⟩
  case round =>
    obtain ⟨j, hj, rfl, rfl, hrj, hg⟩ := hrel
    by_cases hlt : j < k
    · obtain ⟨P, hP⟩ : ∃ P, P = p + j := ⟨_, rfl⟩
      obtain ⟨N, hN⟩ : ∃ N, N = num (bitsFrom xs p j) := ⟨_, rfl⟩
      have hNb : N < 2147483648 := by
        have := num_lt (bitsFrom xs p j)
        rw [bitsFrom_length] at this
        have h3 : (2 : Nat) ^ j ≤ 2 ^ 31 := Nat.pow_le_pow_right (by omega) (by omega)
        omega
      rw [← hP] at hrj
      rw [← hN]
      obtain ⟨g2, hne, hb1, hb2, hp, hx, hb⟩ := id hrj
      obtain ⟨n, hn⟩ : ∃ n, n = xs.length := ⟨_, rfl⟩
      have hPn : P / 8 < n := by omega
      obtain ⟨B, hB⟩ : ∃ B, B = xs.getD (P / 8) 0 := ⟨_, rfl⟩
      have hlt8 : P / 8 < xs.length := by omega
      have hBb : B < 256 := by rw [hB, List.getD_eq_getElem?_getD, List.getElem?_eq_getElem hlt8]; exact hb _ (List.getElem_mem _)
      have hc1 : wr.cell? ⟨g, 1, none⟩ = some (.int .i64 (P : Nat)) := by rw [hb1.cell]; rfl
      have hc0 : wr.cell? ⟨g, 0, none⟩ = some (.slice (some ⟨g2, 0, none⟩) n n) := by rw [hb1.cell, hn]; rfl
      have hcb : wr.cell? ⟨g2, P / 8, none⟩ = some (.int .u8 (B : Nat)) := by
        rw [hb2.cell, hB]
        simp [u8s, hlt8]
      clear hlt8
      have hfz := hb1.thaw 1
      have hPb : P < 8388608 := by omega
      have HP := Lib.hid hP; clear hP
      have HN := Lib.hid hN; clear hN
      have HB := Lib.hid hB; clear hB
      have HR := Lib.hid hrj; clear hrj
      have HG := Lib.hid hg; clear hg
      have Hn := Lib.hid hn; clear hn
      have H2 := Lib.hid hb2; clear hb2
      have H1 := Lib.hid hb1; clear hb1
      have H0 := Lib.hid hb; clear hb
      clear hr
      have x1 : (P : Int) / 8 < n := by omega
      have x0 : (0 : Int) ≤ (P : Int) / 8 := by omega
      go_wp2_with fail
      have e1 : IntKind.i64.wrap ((P : Int) / 8) = (P : Int) / 8 := IntWalk.i64_in _ (by omega)
      have e2 : ((P : Int) / 8).toNat = P / 8 := by omega
      go_quiet ((go_at_call 25; exact Calls.quiet_of_same ((bitShift_any (P : Int) (by omega) (by omega) _).mono fun _ _ h => ⟨h.1, h.2.symm⟩)))
      clear e1 e2
      go_wp2
      go_roundw
      case rel =>
        have hNN := HN.out
        have hBB := HB.out
        have hPP := HP.out
        refine ⟨j + 1, by omega, by go_num, ?_, ?_, ?_⟩
        · rw [get_bit N B (7 - P % 8) hNb hBb, bitsFrom_succ, num_snoc, ← hNN]
          have : bitAt xs (p + j) = B.testBit (7 - P % 8) := by rw [← hPP, hBB]; rfl
          rw [this]
        · refine ⟨g2, hne, ?_, ?_, by omega, hx, H0.out⟩
          · have := (H1.out.draws nq).stored 1 (.int .i64 ((P : Int) + 1))
            have e : ((p + (j + 1) : Nat) : Int) = (P : Int) + 1 := by omega
            rw [e]
            exact this
          · exact (H2.out.draws nq).apart (p := ⟨g, 1, none⟩) hne _
        · exact only_store (only_draws HG.out nq) rfl _
      case measure => simp [intOf]; omega
    · obtain rfl : j = k := by omega
      go_wp2
      go_ret2
      exact ⟨rfl, hrj, hg⟩

end Go.Proofs.Ythaonojcfmnjpaa
