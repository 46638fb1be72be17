/-
  BitsRead, BitsAny, Power, Ref01, Ref01b: merged.
-/
import Derived.Test.YtamnhnleipnhdaaDoorMgA
import Derived.Deep.QuietTactic
import Derived.BigQuiet
import Derived.StillTailTactics
import Derived.Deep.RegionLaw

/-
  bits.Read, and (*bits.Reader).Left, At, Get.
-/
namespace Go.Proofs.YtamnhnleipnhdaaDoor

open Go.RowKit

open BitsM

/-- Bit p of some bytes. -/
def bitAt (xs : List Nat) (p : Nat) : Bool := (xs.getD (p / 8) 0).testBit (7 - p % 8)
def bitsFrom (xs : List Nat) (p k : Nat) : List Bool := (List.range k).map fun i => bitAt xs (p + i)
theorem bitsFrom_zero (xs : List Nat) (p : Nat) : bitsFrom xs p 0 = [] := rfl
theorem bitsFrom_succ (xs : List Nat) (p k : Nat) : bitsFrom xs p (k + 1) = bitsFrom xs p k ++ [bitAt xs (p + k)] := by simp [bitsFrom, List.range_succ]
theorem bitsFrom_length (xs : List Nat) (p k : Nat) : (bitsFrom xs p k).length = k := by simp [bitsFrom]

/-- Block g is a reader of the bytes xs, which block g2 holds, that has consumed p bits. -/
def IsRd (w : World) (g g2 : Nat) (xs : List Nat) (p : Nat) : Prop :=
  g2 ≠ g ∧ Has w g 115 #[.slice (some ⟨g2, 0, none⟩) xs.length xs.length, .int .i64 p] ∧ Has w g2 5 (u8s xs).toArray ∧ p ≤ 8 * xs.length ∧ xs.length ≤ 1048576 ∧ ∀ x ∈ xs, x < 256
/-- Block g is a reader of the bytes xs that has consumed p bits. -/
def IsR (w : World) (g : Nat) (xs : List Nat) (p : Nat) : Prop := ∃ g2, IsRd w g g2 xs p

theorem left_none (w : World) : Calls Tryd.prog 74 #[.pointer none] w fun e w' => e = .returned (.int .i64 0) ∧ w = w' := by
  go_enter Tryd.func74, Tryd.ntmps74
  go_wp2
  go_ret
  exact ⟨rfl, rfl⟩
theorem at_none (w : World) : Calls Tryd.prog 46 #[.pointer none] w fun e w' => e = .returned (.int .i64 0) ∧ w = w' := by
  go_enter Tryd.func46, Tryd.ntmps46
  go_wp2
  go_ret
  exact ⟨rfl, rfl⟩
theorem at_any (g : Nat) (xs : List Nat) (p : Nat) (w : World) (hr : IsR w g xs p) :
    Calls Tryd.prog 46 #[.pointer (some ⟨g, 0, none⟩)] w fun e w' => e = .returned (.int .i64 p) ∧ w = w' := by
  obtain ⟨g2, hne, hg, h2, hp, hx, hb⟩ := hr
  have hc : w.cell? ⟨g, 1, none⟩ = some (.int .i64 p) := by rw [hg.cell]; rfl
  go_enter Tryd.func46, Tryd.ntmps46
  go_wp2
  go_ret
  exact ⟨rfl, rfl⟩
theorem left_any (g : Nat) (xs : List Nat) (p : Nat) (w : World) (hr : IsR w g xs p) :
    Calls Tryd.prog 74 #[.pointer (some ⟨g, 0, none⟩)] w fun e w' => e = .returned (.int .i64 ((8 * xs.length - p : Nat) : Int)) ∧ ∃ m, w' = w.drewN m := by
  obtain ⟨g2, hne, hg, h2, hp, hx, hb⟩ := hr
  have hc : w.cell? ⟨g, 1, none⟩ = some (.int .i64 p) := by rw [hg.cell]; rfl
  have hc0 : w.cell? ⟨g, 0, none⟩ = some (.slice (some ⟨g2, 0, none⟩) xs.length xs.length) := by rw [hg.cell]; rfl
  have e1 : IntKind.i64.wrap (8 * (xs.length : Int)) = 8 * (xs.length : Int) := IntWalk.i64_in _ (by omega)
  have e2 : IntKind.i64.wrap (8 * (xs.length : Int) - p) = ((8 * xs.length - p : Nat) : Int) := by
    rw [IntWalk.i64_in _ (by omega)]; omega
  go_enter Tryd.func74, Tryd.ntmps74
  go_wp2_with fail
  go_quiet (fail)
  go_wp2
  go_ret
  exact ⟨rfl, nq, rfl⟩

set_option maxHeartbeats 400000 in
theorem read_new (A : Option Addr) (c : Nat) (xs : List Nat) (w : World) (ha : At8 w A xs) (hx : xs.length ≤ 1048576) (hb : ∀ x ∈ xs, x < 256) :
    Calls Tryd.prog 42 #[.slice A xs.length c] w fun e w' =>
      ∃ g g2, e = .returned (.pointer (some ⟨g, 0, none⟩)) ∧ w.heap.size ≤ g ∧ w.heap.size ≤ g2 ∧ IsRd w' g g2 xs 0 ∧ Below w.heap.size w w' := by
  obtain ⟨n, hn⟩ : ∃ n, n = xs.length := ⟨_, rfl⟩
  have hmk : ∀ w, (Instr.makeSlice 28 (.int .i64 (n : Int)) (.int .i64 (n : Int))).run Tryd.prog w = .ok (.slice (some ⟨w.heap.size, 0, none⟩) n n) (w.alloc (.cells (madeCells #[.int .u8 0] n) 5)) := by
    intro w
    exact run_make_row' (P := Tryd.prog) 28 5 (.int .u8 0) 1 Tryd.underlying28 info_u8 rfl .i64 .i64 n (by omega) (by omega) w
  have HM : Hid ((w.alloc (.cells (madeCells #[.int .u8 0] n) 5)).heap[w.heap.size]? = some (.cells (List.replicate n (.int .u8 0)).toArray 5 (0, 0))) := made_row w _ _ _
  have HC : Hid ((u8s xs).length = Nat.min n n) := by
    show _ = min n n
    rw [u8s_length]; omega
  have HF : Hid (0 + (u8s xs).length ≤ (List.replicate n (Value.int .u8 0)).length) := by
    show _ ≤ _
    rw [u8s_length]; simp; omega
  have HP : Hid (0 < (u8s xs).length → (some ⟨w.heap.size, 0, none⟩ : Option Addr) = some ⟨w.heap.size, 0, none⟩ ∧ ∃ ad, A = some ad ∧
      ∀ j v, (u8s xs)[j]? = some v → (w.alloc (.cells (madeCells #[.int .u8 0] n) 5)).cell? (ad.add j) = some v) := by
    intro hpos
    rw [u8s_length] at hpos
    obtain ⟨ad, e, hc⟩ := at8_alloc ha (.cells (madeCells #[.int .u8 0] n) 5) hpos
    exact ⟨rfl, ad, e, hc⟩
  have HB := Lib.hid hb; clear hb
  have HA := Lib.hid ha; clear ha
  rw [← hn]
  have HN := Lib.hid hn; clear hn
  go_enter Tryd.func42, Tryd.ntmps42
  go_wp2_with (with_reducible refine wpList_copy_splice (o := ⟨some 9, _, _, _, _, _⟩) rfl (.tmp 7) (.tmp 8) 28 28 rfl 5 Tryd.underlying28 size_u8 (some ⟨w.heap.size, 0, none⟩) A n n n c ?hd ?hs w.heap.size 0 (List.replicate n (.int .u8 0)) 5 HM.out (u8s xs) HC.out HP.out HF.out (u8s_one _) w.heap.size w (Below.alloc (Below.refl _ _) (Nat.le_refl _) _) (Nat.le_refl _) ?next)
  case next =>
    intro w1 H1 hb1
    have h1 : Has w1 w.heap.size 5 (u8s xs).toArray := by
      have := H1.out
      rw [splice_all _ _ (by rw [u8s_length]; have := HN.out; simp; omega)] at this
      exact this
    clear H1
    have HH := Lib.hid h1; clear h1
    go_wp2
    go_ret
    refine ⟨w1.heap.size, w.heap.size, rfl, hb1.size, Nat.le_refl _, ⟨?_, ?_, HH.out.beside _, by omega, hx, HB.out⟩, hb1.alloc hb1.size _⟩
    · have := HH.out.lt
      omega
    · rw [← HN.out]
      exact Has.made _ _ _

theorem read_any (A : Option Addr) (c : Nat) (xs : List Nat) (w : World) (ha : At8 w A xs) (hx : xs.length ≤ 1048576) (hb : ∀ x ∈ xs, x < 256) :
    Calls Tryd.prog 42 #[.slice A xs.length c] w fun e w' =>
      ∃ g, e = .returned (.pointer (some ⟨g, 0, none⟩)) ∧ w.heap.size ≤ g ∧ IsR w' g xs 0 ∧ Below w.heap.size w w' :=
  (read_new A c xs w ha hx hb).mono fun _ _ ⟨g, g2, he, h1, _, h3, h4⟩ => ⟨g, he, h1, ⟨g2, h3⟩, h4⟩

set_option maxHeartbeats 400000 in
theorem get_wide (p : Value) (k : Int) (h : k < 1 ∨ 32 < k) (w : World) :
    Calls Tryd.prog 44 #[p, .int .i64 k] w fun e w' => e = .returned (.tuple #[.int .i64 0, .int .i64 1]) ∧ w = w' := by
  go_enter Tryd.func44, Tryd.ntmps44
  go_wp2_with (first | (go_at_call 73; refine (widthFits_no _ h _).mono ?_; rintro e w' ⟨rfl, rfl⟩))
  go_ret2
  exact ⟨rfl, rfl⟩

set_option maxHeartbeats 400000 in
theorem get_none (k : Int) (h1 : 1 ≤ k) (h2 : k ≤ 32) (w : World) :
    Calls Tryd.prog 44 #[.pointer none, .int .i64 k] w fun e w' => e = .returned (.tuple #[.int .i64 0, .int .i64 10]) ∧ w = w' := by
  go_enter Tryd.func44, Tryd.ntmps44
  go_wp2_with (first | (go_at_call 73; refine (widthFits_yes _ h1 h2 _).mono ?_; rintro e w' ⟨rfl, rfl⟩) | (go_at_call 74; refine (left_none _).mono ?_; rintro e w' ⟨rfl, rfl⟩))
  go_ret2
  exact ⟨rfl, rfl⟩

set_option maxHeartbeats 400000 in
theorem get_short (g : Nat) (xs : List Nat) (p : Nat) (k : Int) (h1 : 1 ≤ k) (h2 : k ≤ 32) (w : World) (hr : IsR w g xs p) (hs : ((8 * xs.length - p : Nat) : Int) < k) :
    Calls Tryd.prog 44 #[.pointer (some ⟨g, 0, none⟩), .int .i64 k] w fun e w' => e = .returned (.tuple #[.int .i64 0, .int .i64 10]) ∧ ∃ m, w' = w.drewN m := by
  go_enter Tryd.func44, Tryd.ntmps44
  go_wp2_with (first | (go_at_call 73; refine (widthFits_yes _ h1 h2 _).mono ?_; rintro e w' ⟨rfl, rfl⟩) | (go_at_call 74; refine (left_any g xs p _ hr).mono ?_; rintro e w' ⟨rfl, nl, rfl⟩))
  go_ret2
  exact ⟨rfl, nl, rfl⟩

theorem IsR.under {w w' : World} {g : Nat} {xs : List Nat} {p B : Nat} (h : IsR w g xs p) (hb : Below B w w') (hB : w.heap.size ≤ B) : IsR w' g xs p := by
  obtain ⟨g2, hne, h1, h2, r⟩ := h
  have l1 := h1.lt
  have l2 := h2.lt
  exact ⟨g2, hne, h1.under hb (by omega), h2.under hb (by omega), r⟩
theorem isR_draws {w : World} {g : Nat} {xs : List Nat} {p : Nat} (h : IsR w g xs p) (n : Nat) : IsR (w.drewN n) g xs p := h

set_option maxRecDepth 100000 in
set_option maxHeartbeats 1000000 in
theorem get_fits (g : Nat) (xs : List Nat) (p k : Nat) (h1 : 1 ≤ k) (h2 : k ≤ 32) (w : World) (hr : IsR w g xs p) (hs : p + k ≤ 8 * xs.length) :
    Calls Tryd.prog 44 #[.pointer (some ⟨g, 0, none⟩), .int .i64 k] w fun e w' =>
      e = .returned (.tuple #[.int .i64 (num (bitsFrom xs p k) : Nat), .int .i64 0]) ∧ IsR w' g xs (p + k) ∧ w.grownBy w' (some g) := by
  have h1' : (1 : Int) ≤ k := by omega
  have h2' : (k : Int) ≤ 32 := by omega
  have hs' : ¬ ((8 * xs.length - p : Nat) : Int) < k := by omega
  go_enter Tryd.func44, Tryd.ntmps44
  go_wp2_with (first | (go_at_call 73; refine (widthFits_yes _ h1' h2' _).mono ?_; rintro e w' ⟨rfl, rfl⟩) | (go_at_call 74; refine (left_any g xs p _ hr).mono ?_; rintro e w' ⟨rfl, nl, rfl⟩))
  go_loopw [6, 15] (fun a i wr => ∃ j : Nat, j ≤ k ∧ i = .int .i64 j ∧ a = .int .i64 (num (bitsFrom xs p j) : Nat) ∧ IsR wr g xs (p + j) ∧ w.grownBy wr (some g)) (fun _ i _ => k - (intOf i).toNat)
  case atStart => exact ⟨0, by omega, rfl, rfl, isR_draws hr nl, only_draws (only_refl _ _) nl⟩
  case round =>
    obtain ⟨j, hj, rfl, rfl, hrj, hg⟩ := hrel
    by_cases hlt : j < k
    · obtain ⟨P, hP⟩ : ∃ P, P = p + j := ⟨_, rfl⟩
      obtain ⟨N, hN⟩ : ∃ N, N = num (bitsFrom xs p j) := ⟨_, rfl⟩
      have hNb : N < 2147483648 := by
        have := num_lt (bitsFrom xs p j)
        rw [bitsFrom_length] at this
        have h3 : (2 : Nat) ^ j ≤ 2 ^ 31 := Nat.pow_le_pow_right (by omega) (by omega)
        omega
      rw [← hP] at hrj
      rw [← hN]
      obtain ⟨g2, hne, hb1, hb2, hp, hx, hb⟩ := id hrj
      obtain ⟨n, hn⟩ : ∃ n, n = xs.length := ⟨_, rfl⟩
      have hPn : P / 8 < n := by omega
      obtain ⟨B, hB⟩ : ∃ B, B = xs.getD (P / 8) 0 := ⟨_, rfl⟩
      have hlt8 : P / 8 < xs.length := by omega
      have hBb : B < 256 := by rw [hB, List.getD_eq_getElem?_getD, List.getElem?_eq_getElem hlt8]; exact hb _ (List.getElem_mem _)
      have hc1 : wr.cell? ⟨g, 1, none⟩ = some (.int .i64 (P : Nat)) := by rw [hb1.cell]; rfl
      have hc0 : wr.cell? ⟨g, 0, none⟩ = some (.slice (some ⟨g2, 0, none⟩) n n) := by rw [hb1.cell, hn]; rfl
      have hcb : wr.cell? ⟨g2, P / 8, none⟩ = some (.int .u8 (B : Nat)) := by
        rw [hb2.cell, hB]
        simp [u8s, hlt8]
      clear hlt8
      have hfz := hb1.thaw 1
      have hPb : P < 8388608 := by omega
      have HP := Lib.hid hP; clear hP
      have HN := Lib.hid hN; clear hN
      have HB := Lib.hid hB; clear hB
      have HR := Lib.hid hrj; clear hrj
      have HG := Lib.hid hg; clear hg
      have Hn := Lib.hid hn; clear hn
      have H2 := Lib.hid hb2; clear hb2
      have H1 := Lib.hid hb1; clear hb1
      have H0 := Lib.hid hb; clear hb
      clear hr
      have x1 : (P : Int) / 8 < n := by omega
      have x0 : (0 : Int) ≤ (P : Int) / 8 := by omega
      go_wp2_with fail
      have e1 : IntKind.i64.wrap ((P : Int) / 8) = (P : Int) / 8 := IntWalk.i64_in _ (by omega)
      have e2 : ((P : Int) / 8).toNat = P / 8 := by omega
      go_quiet ((go_at_call 75; exact Calls.quiet_of_same ((bitShift_any (P : Int) (by omega) (by omega) _).mono fun _ _ h => ⟨h.1, h.2.symm⟩)))
      clear e1 e2
      go_wp2
      go_roundw
      case rel =>
        have hNN := HN.out
        have hBB := HB.out
        have hPP := HP.out
        refine ⟨j + 1, by omega, by go_num, ?_, ?_, ?_⟩
        · rw [get_bit N B (7 - P % 8) hNb hBb, bitsFrom_succ, num_snoc, ← hNN]
          have : bitAt xs (p + j) = B.testBit (7 - P % 8) := by rw [← hPP, hBB]; rfl
          rw [this]
        · refine ⟨g2, hne, ?_, ?_, by omega, hx, H0.out⟩
          · have := (H1.out.draws nq).stored 1 (.int .i64 ((P : Int) + 1))
            have e : ((p + (j + 1) : Nat) : Int) = (P : Int) + 1 := by omega
            rw [e]
            exact this
          · exact (H2.out.draws nq).apart (p := ⟨g, 1, none⟩) hne _
        · exact only_store (only_draws HG.out nq) rfl _
      case measure => simp [intOf]; omega
    · obtain rfl : j = k := by omega
      go_wp2
      go_ret2
      exact ⟨rfl, hrj, hg⟩

end Go.Proofs.YtamnhnleipnhdaaDoor

/-
  Put and Get, whatever they are called with: one contract each; and what leaves a writer and a reader as they are.
-/
namespace Go.Proofs.YtamnhnleipnhdaaDoor

open Go.RowKit

open BitsM

/-! Put -/
def putOk (bs : List Bool) (n k : Int) : Bool := decide (1 ≤ k ∧ k ≤ 32 ∧ 0 ≤ n ∧ n < ((2 ^ k.toNat : Nat) : Int) ∧ bs.length + k.toNat ≤ 8184)
def putE (bs : List Bool) (n k : Int) : Int := if 1 ≤ k ∧ k ≤ 32 ∧ 0 ≤ n ∧ n < ((2 ^ k.toNat : Nat) : Int) then (if bs.length + k.toNat ≤ 8184 then 0 else 2) else 1
def putB (bs : List Bool) (n k : Int) : List Bool := if putOk bs n k then bs ++ wbits n.toNat k.toNat k.toNat else bs
theorem putE_ok {bs : List Bool} {n k : Int} : putE bs n k = 0 ↔ putOk bs n k = true := by
  unfold putE putOk
  rw [decide_eq_true_eq]
  split <;> rename_i h
  · split <;> rename_i h2
    · exact ⟨fun _ => ⟨h.1, h.2.1, h.2.2.1, h.2.2.2, h2⟩, fun _ => rfl⟩
    · exact ⟨fun e => by simp at e, fun e => absurd e.2.2.2.2 h2⟩
  · constructor
    · intro e; simp at e
    · intro e; exact absurd ⟨e.1, e.2.1, e.2.2.1, e.2.2.2.1⟩ h
theorem putB_ok {bs : List Bool} {n k : Int} (h : putE bs n k = 0) : putB bs n k = bs ++ wbits n.toNat k.toNat k.toNat := by
  unfold putB; rw [if_pos (putE_ok.1 h)]
theorem putB_no {bs : List Bool} {n k : Int} (h : putE bs n k ≠ 0) : putB bs n k = bs := by
  unfold putB; rw [if_neg (fun e => h (putE_ok.2 e))]

theorem put_any (g : Nat) (bs : List Bool) (n k : Int) (w : World) (hw : IsW w g bs) :
    Calls Tryd.prog 62 #[.pointer (some ⟨g, 0, none⟩), .int .i64 n, .int .i64 k] w fun e w' =>
      e = .returned (.int .i64 (putE bs n k)) ∧ IsW w' g (putB bs n k) ∧ w.grownBy w' (some g) := by
  by_cases h1 : 1 ≤ k ∧ k ≤ 32
  · by_cases h2 : 0 ≤ n ∧ n < ((2 ^ k.toNat : Nat) : Int)
    · by_cases h3 : bs.length + k.toNat ≤ 8184
      · have e1 : putE bs n k = 0 := by unfold putE; rw [if_pos ⟨h1.1, h1.2, h2.1, h2.2⟩, if_pos h3]
        rw [putB_ok e1, e1]
        have en : ((n.toNat : Nat) : Int) = n := by omega
        have ek : ((k.toNat : Nat) : Int) = k := by omega
        have h := put_fits g bs n.toNat k.toNat (by omega) (by omega) (by omega) w hw h3
        rw [en, ek] at h
        exact h
      · have e1 : putE bs n k = 2 := by unfold putE; rw [if_pos ⟨h1.1, h1.2, h2.1, h2.2⟩, if_neg h3]
        rw [putB_no (by rw [e1]; decide), e1]
        exact (put_full g bs n k h1.1 h1.2 h2.1 h2.2 w hw (by omega)).mono fun e w' ⟨he, hww⟩ => ⟨he, hww ▸ hw, hww ▸ only_refl _ _⟩
    · have e1 : putE bs n k = 1 := by unfold putE; rw [if_neg (fun h => h2 ⟨h.2.2.1, h.2.2.2⟩)]
      rw [putB_no (by rw [e1]; decide), e1]
      by_cases h3 : n < 0
      · exact (put_low _ n k h1.1 h1.2 h3 w).mono fun e w' ⟨he, hww⟩ => ⟨he, hww ▸ hw, hww ▸ only_refl _ _⟩
      · exact (put_high _ n k h1.1 h1.2 (by omega) w).mono fun e w' ⟨he, hww⟩ => ⟨he, hww ▸ hw, hww ▸ only_refl _ _⟩
  · have e1 : putE bs n k = 1 := by unfold putE; rw [if_neg (fun h => h1 ⟨h.1, h.2.1⟩)]
    rw [putB_no (by rw [e1]; decide), e1]
    exact (put_wide _ n k (by omega) w).mono fun e w' ⟨he, hww⟩ => ⟨he, hww ▸ hw, hww ▸ only_refl _ _⟩

theorem IsW.keep {w w' : World} {g : Nat} {bs : List Bool} {row : Option Nat} (h : IsW w g bs) (hg : w.grownBy w' row) (hne : some g ≠ row) : IsW w' g bs := ⟨h.1, h.2.grow hg hne⟩
theorem IsW.under {w w' : World} {g B : Nat} {bs : List Bool} (h : IsW w g bs) (hb : Below B w w') (hB : w.heap.size ≤ B) : IsW w' g bs := ⟨h.1, h.2.under hb (by have := h.2.lt; omega)⟩
theorem IsW.draws {w : World} {g : Nat} {bs : List Bool} (h : IsW w g bs) (n : Nat) : IsW (w.drewN n) g bs := h

/-! Get -/
def gotOk (xs : List Nat) (p : Nat) (k : Int) : Bool := decide (1 ≤ k ∧ k ≤ 32 ∧ p + k.toNat ≤ 8 * xs.length)
def gotE (xs : List Nat) (p : Nat) (k : Int) : Int := if 1 ≤ k ∧ k ≤ 32 then (if p + k.toNat ≤ 8 * xs.length then 0 else 10) else 1
def gotN (xs : List Nat) (p : Nat) (k : Int) : Nat := if gotOk xs p k then num (bitsFrom xs p k.toNat) else 0
def gotP (xs : List Nat) (p : Nat) (k : Int) : Nat := if gotOk xs p k then p + k.toNat else p
theorem got_yes {xs : List Nat} {p : Nat} {k : Int} (h1 : 1 ≤ k) (h2 : k ≤ 32) (h : p + k.toNat ≤ 8 * xs.length) :
    gotE xs p k = 0 ∧ gotN xs p k = num (bitsFrom xs p k.toNat) ∧ gotP xs p k = p + k.toNat := by
  have e : gotOk xs p k = true := decide_eq_true ⟨h1, h2, h⟩
  unfold gotE gotN gotP
  rw [if_pos e, if_pos e, if_pos ⟨h1, h2⟩, if_pos h]
  exact ⟨rfl, rfl, rfl⟩
theorem got_short {xs : List Nat} {p : Nat} {k : Int} (h1 : 1 ≤ k) (h2 : k ≤ 32) (h : 8 * xs.length < p + k.toNat) :
    gotE xs p k = 10 ∧ gotN xs p k = 0 ∧ gotP xs p k = p := by
  have e : ¬ gotOk xs p k = true := fun e => by have := of_decide_eq_true e; omega
  unfold gotE gotN gotP
  rw [if_neg e, if_neg e, if_pos ⟨h1, h2⟩, if_neg (by omega)]
  exact ⟨rfl, rfl, rfl⟩
theorem got_wide {xs : List Nat} {p : Nat} {k : Int} (h : k < 1 ∨ 32 < k) :
    gotE xs p k = 1 ∧ gotN xs p k = 0 ∧ gotP xs p k = p := by
  have e : ¬ gotOk xs p k = true := fun e => by have := of_decide_eq_true e; omega
  unfold gotE gotN gotP
  rw [if_neg e, if_neg e, if_neg (by omega)]
  exact ⟨rfl, rfl, rfl⟩
theorem gotP_le {xs : List Nat} {p : Nat} {k : Int} (hp : p ≤ 8 * xs.length) : p ≤ gotP xs p k ∧ gotP xs p k ≤ 8 * xs.length := by
  unfold gotP
  split
  · rename_i h
    have := of_decide_eq_true h
    omega
  · omega

theorem get_any (g : Nat) (xs : List Nat) (p : Nat) (k : Int) (w : World) (hr : IsR w g xs p) :
    Calls Tryd.prog 44 #[.pointer (some ⟨g, 0, none⟩), .int .i64 k] w fun e w' =>
      e = .returned (.tuple #[.int .i64 (gotN xs p k : Nat), .int .i64 (gotE xs p k)]) ∧ IsR w' g xs (gotP xs p k) ∧ w.grownBy w' (some g) := by
  by_cases h1 : 1 ≤ k ∧ k ≤ 32
  · by_cases h : p + k.toNat ≤ 8 * xs.length
    · obtain ⟨e1, e2, e3⟩ := got_yes h1.1 h1.2 h
      rw [e1, e2, e3]
      have hc := get_fits g xs p k.toNat (by omega) (by omega) w hr h
      rw [show ((k.toNat : Nat) : Int) = k from by omega] at hc
      exact hc
    · obtain ⟨e1, e2, e3⟩ := got_short h1.1 h1.2 (show 8 * xs.length < p + k.toNat by omega)
      rw [e1, e2, e3]
      exact (get_short g xs p k h1.1 h1.2 w hr (by omega)).mono fun e w' ⟨he, m, hm⟩ => ⟨he, hm ▸ isR_draws hr m, hm ▸ only_draws (only_refl _ _) m⟩
  · obtain ⟨e1, e2, e3⟩ := got_wide (xs := xs) (p := p) (k := k) (by omega)
    rw [e1, e2, e3]
    exact (get_wide _ k (by omega) w).mono fun e w' ⟨he, hw⟩ => ⟨he, hw ▸ hr, hw ▸ only_refl _ _⟩

/-- Another reader's block is none of this one's. -/
theorem IsR.keep {w w' : World} {g g' : Nat} {xs ys : List Nat} {p q : Nat} (h : IsR w g xs p) (h' : IsR w g' ys q) (hne : g ≠ g') (hg : w.grownBy w' (some g')) : IsR w' g xs p := by
  obtain ⟨g2, h2, ha, hb, r⟩ := h
  obtain ⟨_, _, ha', _⟩ := h'
  have hne2 : g2 ≠ g' := hb.other ha' (by decide)
  exact ⟨g2, h2, ha.grow hg (by simpa using hne), hb.grow hg (by simpa using hne2), r⟩
theorem IsR.beside {w w' : World} {g g' : Nat} {xs : List Nat} {p : Nat} {t : TypeId} {cs : Array Value} (h : IsR w g xs p) (h' : Has w g' t cs) (h1 : t ≠ 115) (h2 : t ≠ 5) (hg : w.grownBy w' (some g')) : IsR w' g xs p := by
  obtain ⟨g2, hn, ha, hb, r⟩ := h
  exact ⟨g2, hn, ha.grow hg (by simpa using ha.other h' (fun e => h1 e.symm)), hb.grow hg (by simpa using hb.other h' (fun e => h2 e.symm)), r⟩
theorem bitsFrom_add (xs : List Nat) (p a b : Nat) : bitsFrom xs p (a + b) = bitsFrom xs p a ++ bitsFrom xs (p + a) b := by
  unfold bitsFrom
  rw [List.range_add, List.map_append, List.map_map]
  congr 1
  apply List.map_congr_left
  intro i _
  simp [Nat.add_assoc]

end Go.Proofs.YtamnhnleipnhdaaDoor

/-
  linesideref01.Power: two to a number.
-/
namespace Go.Proofs.YtamnhnleipnhdaaDoor

open Go.RowKit

theorem ret_int {k : IntKind} {a b : Int} (h : a = b) : Ending.returned (.int k a) = .returned (.int k b) := by rw [h]

set_option maxHeartbeats 400000 in
theorem power_any (n R : Nat) (hn : n ≤ 40) (hR : R = 2 ^ n) (w : World) :
    Calls Tryd.prog 67 #[.int .i64 (n : Nat)] w fun e w' => e = .returned (.int .i64 (R : Nat)) ∧ w = w' := by
  have HR := Lib.hid hR; clear hR
  go_enter Tryd.func67, Tryd.ntmps67
  go_wp2
  go_loop [3, 4] (fun p i => ∃ k : Nat, k ≤ n ∧ i = .int .i64 k ∧ p = .int .i64 ((2 ^ k : Nat) : Int)) (fun _ i => n - (intOf i).toNat)
  case atStart => exact ⟨0, by omega, rfl, rfl⟩
  case round =>
    obtain ⟨k, hk, rfl, rfl⟩ := hrel
    obtain ⟨P, hP⟩ : ∃ P, P = 2 ^ k := ⟨_, rfl⟩
    rw [← hP]
    have hPb : P ≤ 1099511627776 := by
      have h3 : (2 : Nat) ^ k ≤ 2 ^ 40 := Nat.pow_le_pow_right (by omega) (by omega)
      omega
    have HP := Lib.hid hP; clear hP
    by_cases hlt : k < n
    · go_wp2
      go_round
      case rel => exact ⟨k + 1, by omega, by go_num, by rw [Nat.pow_succ, ← HP.out]; go_num⟩
      case measure => simp [intOf]; omega
    · go_wp2
      go_ret
      obtain rfl : k = n := by omega
      exact ⟨ret_int (by rw [HR.out, HP.out]), rfl⟩

end Go.Proofs.YtamnhnleipnhdaaDoor

/-
  linesideref01: the document's answer for bits, function by function.
-/
namespace Go.Proofs.YtamnhnleipnhdaaDoor

open Go.RowKit

open BitsM
def bools (l : List Bool) : List Value := l.map Value.bool
theorem bools_length (l : List Bool) : (bools l).length = l.length := by simp [bools]
theorem bools_snoc (l : List Bool) (b : Bool) : bools (l ++ [b]) = bools l ++ [.bool b] := by simp [bools]
theorem bools_one (l : List Bool) : ∀ v ∈ bools l, v.oneCell' = true := by
  intro v hv
  simp only [bools, List.mem_map] at hv
  obtain ⟨b, _, rfl⟩ := hv
  rfl
theorem info_bool : (Tryd.prog.info? 4).map (fun i => (i.zero, i.size, i.bytes)) = some (some (.bool false), 1, 1) := by kernel_rfl

/-- A slice of Booleans, of such bits. -/
def SlB (w : World) (A : Option Addr) (m c : Nat) (bs : List Bool) : Prop := bs.length = m ∧ Sl w 1 A m c (bools bs)

theorem slB_nil (w : World) : SlB w none 0 0 [] := ⟨rfl, sl_nil w 1⟩
theorem SlB.under {w w' : World} {A : Option Addr} {m c : Nat} {bs : List Bool} (h : SlB w A m c bs) (hb : Below w.heap.size w w') : SlB w' A m c bs := ⟨h.1, h.2.under hb⟩
theorem SlB.grow {w w' : World} {A : Option Addr} {m c : Nat} {bs : List Bool} {g : Nat} {t : TypeId} {cs : Array Value} (h : SlB w A m c bs) (hg : w.grownBy w' (some g)) (hh : Has w g t cs) (hn : ∀ v ∈ cs, ∀ b, v ≠ .bool b) : SlB w' A m c bs := by
  refine ⟨h.1, h.2.1, h.2.2.1, fun ad ha j u hu => ?_⟩
  have h0 := h.2.2.2 ad ha j u hu
  have hblk := cell_block h0
  have hne : (ad.add j).block ≠ g := by
    intro e
    clear hblk
    generalize ad.add j = a at h0 e
    obtain ⟨b, off, spot⟩ := a
    have e' : b = g := e
    subst e'
    have hs : spot = none := World.cell?_spot h0
    subst hs
    rw [hh.cell] at h0
    have hmem := Array.mem_of_getElem? h0
    have hu' : u ∈ bools bs := List.mem_of_getElem? hu
    simp only [bools, List.mem_map] at hu'
    obtain ⟨b, _, rfl⟩ := hu'
    exact hn _ hmem b rfl
  rw [World.cell?_of_block (hg.block (ad.add j).block hblk (fun e => hne (by injection e)))]
  exact h0

theorem sl_bool {w : World} {A : Option Addr} {m c : Nat} {bs : List Bool} (h : SlB w A m c bs) {j : Nat} (hj : j < m) : ∃ b off, A = some ⟨b, off, none⟩ ∧ w.cell? ⟨b, off + j, none⟩ = some (.bool (bs.getD j false)) := by
  have hl := h.1
  have e : (bools bs)[j]? = some (.bool (bs.getD j false)) := by
    have : j < bs.length := by omega
    simp [bools, List.getD_eq_getElem?_getD, this]
  exact h.2.at_ e

/-- The bits of byte j, the first t of them. -/
def octet (bs : List Bool) (j t : Nat) : List Bool := (List.range t).map fun i => bs.getD (8 * j + i) false
theorem octet_succ (bs : List Bool) (j t : Nat) : octet bs j (t + 1) = octet bs j t ++ [bs.getD (8 * j + t) false] := by simp [octet, List.range_succ]
theorem octet_byte (bs : List Bool) (j : Nat) : num (octet bs j 8) = byteAt bs j := rfl
theorem octet_lt (bs : List Bool) (j t : Nat) (h : t ≤ 8) : num (octet bs j t) < 256 := by
  have := num_lt (octet bs j t)
  have h2 : (octet bs j t).length = t := by simp [octet]
  rw [h2] at this
  have h3 : (2 : Nat) ^ t ≤ 2 ^ 8 := Nat.pow_le_pow_right (by omega) h
  omega

set_option maxRecDepth 100000 in
set_option maxHeartbeats 2000000 in
theorem refBytes_any (A : Option Addr) (m c : Nat) (bs : List Bool) (w : World) (hs : SlB w A m c bs) (hm : m ≤ 65536) :
    Calls Tryd.prog 40 #[.slice A m c] w fun e w' =>
      ∃ A' c', e = .returned (.slice A' ((m + 7) / 8) c') ∧ w'.ownsRow w.heap.size 5 1 (.slice A' ((m + 7) / 8) c') ((m + 7) / 8) (u8s ((List.range ((m + 7) / 8)).map (byteAt bs))) ∧ Below w.heap.size w w' := by
  have HS := Lib.hid hs; clear hs
  go_enter Tryd.func40, Tryd.ntmps40
  go_wp2
  go_loopw [3, 4] (fun v i wr => ∃ (j : Nat) (A3 : Option Addr) (c3 : Nat), j ≤ (m + 7) / 8 ∧ i = .int .i64 ((8 * j : Nat) : Int) ∧ v = .slice A3 j c3 ∧
      wr.ownsRow w.heap.size 5 1 (.slice A3 j c3) j (u8s ((List.range j).map (byteAt bs))) ∧ Below w.heap.size w wr) (fun _ i _ => m + 8 - (intOf i).toNat)
  case atStart => exact ⟨0, none, 0, by omega, rfl, rfl, World.ownsRow_nil _ _ _ _, Below.refl _ _⟩
  case round =>
    obtain ⟨j, A3, c3, hj, rfl, rfl, ho, hb⟩ := hrel
    have HO := Lib.hid ho; clear ho
    have HB := Lib.hid hb; clear hb
    have HS2 := Lib.hid (HS.out.under HB.out)
    by_cases hlt : 8 * j < m
    · go_wp2_with fail
      go_loop [5, 6] (fun n k => ∃ t : Nat, t ≤ 8 ∧ k = .int .i64 ((8 * j + t : Nat) : Int) ∧ n = .int .i64 (num (octet bs j t) : Nat)) (fun _ k => 8 * j + 8 - (intOf k).toNat)
      case atStart => exact ⟨0, by omega, by go_num, rfl⟩
      case round =>
        obtain ⟨t, ht, rfl, rfl⟩ := hrel
        obtain ⟨N, hN⟩ : ∃ N, N = num (octet bs j t) := ⟨_, rfl⟩
        have hNb : N < 256 := by rw [hN]; exact octet_lt bs j t ht
        rw [← hN]
        have HN := Lib.hid hN; clear hN
        by_cases ht8 : t < 8
        · have hsucc : num (octet bs j (t + 1)) = 2 * N + (bs.getD (8 * j + t) false).toNat := by rw [octet_succ, num_snoc, HN.out]
          by_cases hin : 8 * j + t < m
          · obtain ⟨b, off, rfl, hc⟩ := sl_bool HS2.out hin
            obtain ⟨T, hT⟩ : ∃ T, T = bs.getD (8 * j + t) false := ⟨_, rfl⟩
            rw [← hT] at hc hsucc
            have HU := Lib.hid hsucc; clear hsucc hT
            cases T
            all_goals
              go_wp2
              go_round
              case rel => exact ⟨t + 1, by omega, by go_num, by rw [HU.out]; go_num⟩
              case measure => simp [intOf]; omega
          · have hz : bs.getD (8 * j + t) false = false := by
              rw [List.getD_eq_getElem?_getD, List.getElem?_eq_none (by have := HS.out.1; omega)]
              rfl
            rw [hz] at hsucc
            have HU := Lib.hid hsucc; clear hsucc hz
            go_wp2
            go_round
            case rel => exact ⟨t + 1, by omega, by go_num, by rw [HU.out]; go_num⟩
            case measure => simp [intOf]; omega
        · obtain rfl : t = 8 := by omega
          rw [octet_byte] at HN
          have HNN := Lib.hid (show ([.int .u8 (N : Int)] : List Value).length = 1 * 1 from rfl)
          have HO3 := Lib.hid (HO.out.alloc (Obj.cells #[.int .u8 (N : Int)] 5))
          have HC : Hid (∀ i u, ([.int .u8 (N : Int)] : List Value)[i]? = some u → (wr.alloc (.cells #[.int .u8 (N : Int)] 5)).cell? ((⟨wr.heap.size, 0, none⟩ : Addr).add i) = some u) := by
            intro i u hu
            rw [WideShapes.add_plain, (Has.made wr 5 #[.int .u8 (N : Int)]).cell, Nat.zero_add]
            simpa using hu
          have H1 : Hid (∀ u ∈ ([.int .u8 (N : Int)] : List Value), u.oneCell' = true) := by
            intro u hu
            simp only [List.mem_singleton] at hu
            subst hu
            rfl
          have HBD : Hid (j + 1 ≤ maxLen ∧ (j + 1) * 1 ≤ 140737488355328 ∧ w.heap.size ≤ (wr.alloc (.cells #[.int .u8 (N : Int)] 5)).heap.size) := by
            refine ⟨by unfold maxLen; omega, by omega, ?_⟩
            have := HB.out.size
            simp
            omega
          have HB3 := Lib.hid (HB.out.alloc HB.out.size (Obj.cells #[.int .u8 (N : Int)] 5))
          go_wp2_with (with_reducible refine wpList_push (o := ⟨some 38, _, _, _, _, _⟩) rfl (.tmp 34) (.tmp 37) 28 rfl w.heap.size 5 (.int .u8 0) 1 1 Tryd.underlying28 info_u8 ?hz (by decide) A3 j c3 (u8s ((List.range j).map (byteAt bs))) ?hs HO3 ⟨wr.heap.size, 0, none⟩ 1 1 [.int .u8 (N : Int)] ?hx HNN HC H1 HBD ?next)
          case next =>
            intro A4 c4 w4 ho4 hg4
            go_wp2
            go_roundw
            case rel =>
              have e : u8s ((List.range (j + 1)).map (byteAt bs)) = u8s ((List.range j).map (byteAt bs)) ++ [.int .u8 (N : Int)] := by
                simp [u8s, List.range_succ, HN.out]
              refine ⟨j + 1, A4, c4, by omega, by go_num, rfl, ?_, below_own HB3.out HBD.out.2.2 HO3.out (Nat.le_refl _) rfl hg4.out⟩
              rw [e]
              exact ho4.out
            case measure => simp [intOf]; omega
    · obtain rfl : j = (m + 7) / 8 := by omega
      go_wp2
      go_ret
      exact ⟨A3, c3, rfl, HO.out, HB.out⟩

end Go.Proofs.YtamnhnleipnhdaaDoor

/-
  linesideref01: Bits and Get.
-/
namespace Go.Proofs.YtamnhnleipnhdaaDoor

open Go.RowKit

open BitsM

theorem at8_at {w : World} {A : Option Addr} {xs : List Nat} (h : At8 w A xs) {j : Nat} (hj : j < xs.length) : ∃ b off, A = some ⟨b, off, none⟩ ∧ w.cell? ⟨b, off + j, none⟩ = some (.int .u8 (xs.getD j 0 : Nat)) := by
  obtain ⟨⟨b, off, spot⟩, rfl, hc⟩ := h (by omega)
  have h0 := hc 0 _ (List.getElem?_eq_getElem (by rw [u8s_length]; omega))
  have hspot : spot = none := by simpa [Addr.add] using World.cell?_spot h0
  subst hspot
  refine ⟨b, off, rfl, ?_⟩
  rw [← WideShapes.add_plain]
  refine hc j _ ?_
  simp [u8s, List.getD_eq_getElem?_getD, hj]

theorem at8_low {w w' : World} {A : Option Addr} {xs : List Nat} (h : At8 w A xs) (hb : Below w.heap.size w w') : At8 w' A xs := by
  intro hpos
  obtain ⟨ad, e, hc⟩ := h hpos
  exact ⟨ad, e, fun j v hv => by have h0 := hc j v hv; rw [hb.cell (cell_block h0)]; exact h0⟩

theorem bitAt_byte (xs : List Nat) (i t : Nat) (h : t < 8) : bitAt xs (8 * i + t) = (xs.getD i 0).testBit (7 - t) := by
  unfold bitAt
  rw [show (8 * i + t) / 8 = i from by omega, show (8 * i + t) % 8 = t from by omega]

set_option maxRecDepth 100000 in
set_option maxHeartbeats 2000000 in
theorem refBits_any (A : Option Addr) (c : Nat) (xs : List Nat) (w : World) (ha : At8 w A xs) (hb : ∀ x ∈ xs, x < 256) (hn : xs.length ≤ 2000) :
    Calls Tryd.prog 47 #[.slice A xs.length c] w fun e w' =>
      ∃ A' c', e = .returned (.slice A' (8 * xs.length) c') ∧ w'.ownsRow w.heap.size 4 1 (.slice A' (8 * xs.length) c') (8 * xs.length) (bools (bitsFrom xs 0 (8 * xs.length))) ∧ Below w.heap.size w w' := by
  have HA := Lib.hid ha; clear ha
  have HX := Lib.hid hb; clear hb
  obtain ⟨n, hnx⟩ : ∃ n, n = xs.length := ⟨_, rfl⟩
  rw [← hnx] at hn
  rw [← hnx]
  have HN := Lib.hid hnx; clear hnx
  go_enter Tryd.func47, Tryd.ntmps47
  go_wp2
  go_loopw [3, 4] (fun v i wr => ∃ (j : Nat) (A3 : Option Addr) (c3 : Nat), j ≤ n ∧ i = .int .i64 (j : Nat) ∧ v = .slice A3 (8 * j) c3 ∧
      wr.ownsRow w.heap.size 4 1 (.slice A3 (8 * j) c3) (8 * j) (bools (bitsFrom xs 0 (8 * j))) ∧ Below w.heap.size w wr) (fun _ i _ => n - (intOf i).toNat)
  case atStart => exact ⟨0, none, 0, by omega, rfl, rfl, World.ownsRow_nil _ _ _ _, Below.refl _ _⟩
  case round =>
    obtain ⟨j, A3, c3, hj, rfl, rfl, ho, hb⟩ := hrel
    have HO := Lib.hid ho; clear ho
    have HB := Lib.hid hb; clear hb
    by_cases hlt : j < n
    · go_wp2_with fail
      go_loopw [3, 5] (fun v k ws => ∃ (t : Nat) (A4 : Option Addr) (c4 : Nat), t ≤ 8 ∧ k = .int .i64 (7 - (t : Int)) ∧ v = .slice A4 (8 * j + t) c4 ∧
        ws.ownsRow w.heap.size 4 1 (.slice A4 (8 * j + t) c4) (8 * j + t) (bools (bitsFrom xs 0 (8 * j + t))) ∧ Below w.heap.size w ws) (fun _ k _ => (intOf k + 1).toNat)
      case atStart => exact ⟨0, A3, c3, by omega, by simp, rfl, HO.out, HB.out⟩
      case round =>
        clear HO HB
        obtain ⟨t, A4, c4, ht, rfl, rfl, ho, hb⟩ := hrel
        have HO := Lib.hid ho; clear ho
        have HB := Lib.hid hb; clear hb
        by_cases ht8 : t < 8
        · obtain ⟨b, off, rfl, hc⟩ := at8_at (at8_low HA.out HB.out) (j := j) (by rw [← HN.out]; exact hlt)
          obtain ⟨y, hy⟩ : ∃ y, y = xs.getD j 0 := ⟨_, rfl⟩
          rw [← hy] at hc
          have hyb : y < 256 := by
            have hl : j < xs.length := by rw [← HN.out]; exact hlt
            rw [hy, List.getD_eq_getElem?_getD, List.getElem?_eq_getElem hl]
            exact HX.out _ (List.getElem_mem _)
          obtain ⟨R, hR⟩ : ∃ R, R = 2 ^ (7 - t) := ⟨_, rfl⟩
          have hRp : 0 < R := by rw [hR]; exact Nat.two_pow_pos _
          have hRb : R ≤ 128 := by
            rw [hR]
            have : (2 : Nat) ^ (7 - t) ≤ 2 ^ 7 := Nat.pow_le_pow_right (by omega) (by omega)
            omega
          have c6 := fun W => power_any (7 - t) R (by omega) hR W
          rw [show ((7 - t : Nat) : Int) = 7 - (t : Int) from by omega] at c6
          have HR := Lib.hid hR; clear hR
          have HC6 := Lib.hid c6; clear c6
          obtain ⟨q, hq⟩ : ∃ q, q = y / R := ⟨_, rfl⟩
          obtain ⟨T, hT⟩ : ∃ T, T = bitAt xs (8 * j + t) := ⟨_, rfl⟩
          have hqy : q ≤ y := by rw [hq]; exact Nat.div_le_self _ _
          have hqT : ((q : Int) % 2 == 1) = T := by
            rw [hT, bitAt_byte _ _ _ ht8, ← hy, Nat.testBit_eq_decide_div_mod_eq, hq, HR.out, Bool.eq_iff_iff, beq_iff_eq, decide_eq_true_eq]
            omega
          have HT := Lib.hid hT; clear hT
          have HQ := Lib.hid hq; clear hq hy
          go_wp2_with fail
          have hR0 : R ≠ 0 := by omega
          have e1 : IntKind.i64.wrap (y : Int) = y := IntWalk.i64_in _ (by omega)
          have e2 : IntKind.i64.wrap ((y : Int) / (R : Int)) = q := by
            rw [show (y : Int) / (R : Int) = (q : Int) from by rw [HQ.out]; simp]
            exact IntWalk.i64_in _ (by omega)
          have e3 : ((q : Int).tmod 2 == 1) = T := by rw [Int.tmod_eq_emod_of_nonneg (by omega)]; exact hqT
          have HN1 := Lib.hid (show ([.bool T] : List Value).length = 1 * 1 from rfl)
          have HO3 : Hid ((wr.alloc (Obj.cells #[.bool T] 4)).drew.ownsRow w.heap.size 4 1 (.slice A4 (8 * j + t) c4) (8 * j + t) (bools (bitsFrom xs 0 (8 * j + t)))) := HO.out.alloc (Obj.cells #[.bool T] 4)
          have HC : Hid (∀ i u, ([.bool T] : List Value)[i]? = some u → (wr.alloc (.cells #[.bool T] 4)).drew.cell? ((⟨wr.heap.size, 0, none⟩ : Addr).add i) = some u) := by
            intro i u hu
            rw [WideShapes.add_plain, Nat.zero_add, (show Has (wr.alloc (.cells #[.bool T] 4)).drew wr.heap.size 4 #[.bool T] from Has.made wr 4 #[.bool T]).cell]
            simpa using hu
          have H1 : Hid (∀ u ∈ ([.bool T] : List Value), u.oneCell' = true) := by
            intro u hu
            simp only [List.mem_singleton] at hu
            subst hu
            rfl
          have HBD : Hid (8 * j + t + 1 ≤ maxLen ∧ (8 * j + t + 1) * 1 ≤ 140737488355328 ∧ w.heap.size ≤ (wr.alloc (.cells #[.bool T] 4)).drew.heap.size) := by
            refine ⟨by unfold maxLen; omega, by omega, ?_⟩
            have := HB.out.size
            show _ ≤ (wr.alloc (.cells #[.bool T] 4)).heap.size
            simp
            omega
          have HB3 : Hid (Below w.heap.size w (wr.alloc (Obj.cells #[.bool T] 4)).drew) := below_draws (HB.out.alloc HB.out.size (Obj.cells #[.bool T] 4)) 1
          clear hqT
          have e : bools (bitsFrom xs 0 (8 * j + (t + 1))) = bools (bitsFrom xs 0 (8 * j + t)) ++ [.bool T] := by
            rw [← Nat.add_assoc, bitsFrom_succ, bools_snoc, Nat.zero_add, ← HT.out]
          have HE := Lib.hid e; clear e
          go_region_law (first
            | (refine step_push (o := ⟨some 28, _, _, _, _, _⟩) rfl (.tmp 16) (.tmp 27) 71 rfl w.heap.size 4 (.bool false) 1 1 Tryd.underlying71 info_bool rfl (by decide) A4 (8 * j + t) c4 (bools (bitsFrom xs 0 (8 * j + t))) rfl HO3 ⟨wr.heap.size, 0, none⟩ 1 1 [.bool T] rfl HN1 HC H1 HBD ?_; intro A5 c5 w5 ho5 hg5)
            | (go_simp; go_at_call 67; refine (HC6.out _).mono ?_; rintro e w' ⟨rfl, rfl⟩))
          all_goals
            clear e1 e2 e3
            go_wp2
            go_roundw
            · refine ⟨t + 1, A5, c5, by omega, by go_num, rfl, ?_, below_own HB3.out HBD.out.2.2 HO3.out (Nat.le_refl _) rfl hg5.out⟩
              rw [HE.out]
              exact ho5.out
            · simp [intOf]; omega
        · obtain rfl : t = 8 := by omega
          go_wp2
          go_roundw
          case rel => exact ⟨j + 1, A4, c4, by omega, by go_num, rfl, HO.out, HB.out⟩
          case measure => simp [intOf]; omega
    · obtain rfl : j = n := by omega
      go_wp2
      go_ret
      exact ⟨A3, c3, rfl, HO.out, HB.out⟩

/-! Get -/
theorem bitsFrom_take (xs : List Nat) (p k m : Nat) (h : k ≤ m) : (bitsFrom xs p m).take k = bitsFrom xs p k := by
  unfold bitsFrom
  rw [← List.map_take, List.take_range, Nat.min_eq_left h]
theorem bitsFrom_drop (xs : List Nat) (p k m : Nat) (h : k ≤ m) : (bitsFrom xs p m).drop k = bitsFrom xs (p + k) (m - k) := by
  have e := bitsFrom_add xs p k (m - k)
  rw [Nat.add_sub_cancel' h] at e
  rw [e, List.drop_left' (by rw [bitsFrom_length])]

theorem SlB.cut {w : World} {A : Option Addr} {m c : Nat} {bs : List Bool} (h : SlB w A m c bs) (hmc : m ≤ c) {k : Nat} (hk : k ≤ m) (b off : Nat) (hA : A = some ⟨b, off, none⟩) :
    SlB w (if c = k then some ⟨b, off, none⟩ else some ⟨b, off + k, none⟩) (m - k) (c - k) (bs.drop k) := by
  have hl := h.1
  refine ⟨by rw [List.length_drop]; omega, by rw [bools_length, List.length_drop]; omega, fun e => ?_, fun ad ha j u hu => ?_⟩
  · split at e <;> cases e
  · have hu' : (bools bs)[k + j]? = some u := by
      unfold bools at hu ⊢
      rw [List.getElem?_map, List.getElem?_drop] at hu
      rw [List.getElem?_map]
      exact hu
    have hj : k + j < bs.length := by
      have := (List.getElem?_eq_some_iff.1 hu').1
      rwa [bools_length] at this
    have hck : c ≠ k := by omega
    rw [if_neg hck] at ha
    injection ha with ha
    subst ha
    have h0 := h.2.2.2 _ hA (k + j) u hu'
    rw [WideShapes.add_plain] at h0 ⊢
    rw [Nat.add_assoc]
    exact h0

set_option maxHeartbeats 400000 in
theorem refGet_wide (A : Option Addr) (m c : Nat) (k : Int) (h : k < 1 ∨ 32 < k) (w : World) :
    Calls Tryd.prog 48 #[.slice A m c, .int .i64 k] w fun e w' => e = .returned (.tuple #[.int .i64 0, .slice A m c, .int .i64 1]) ∧ w = w' := by
  by_cases h1 : k < 1
  · go_enter Tryd.func48, Tryd.ntmps48
    go_wp2
    go_ret3
    exact ⟨rfl, rfl⟩
  · have h2 : 32 < k := by omega
    clear h
    go_enter Tryd.func48, Tryd.ntmps48
    go_wp2
    go_ret3
    exact ⟨rfl, rfl⟩

set_option maxHeartbeats 400000 in
theorem refGet_short (A : Option Addr) (m c : Nat) (k : Int) (h1 : 1 ≤ k) (h2 : k ≤ 32) (h3 : (m : Int) < k) (w : World) :
    Calls Tryd.prog 48 #[.slice A m c, .int .i64 k] w fun e w' => e = .returned (.tuple #[.int .i64 0, .slice A m c, .int .i64 10]) ∧ w = w' := by
  have i1 : ¬ k < 1 := by omega
  have i2 : ¬ 32 < k := by omega
  go_enter Tryd.func48, Tryd.ntmps48
  go_wp2
  go_ret3
  exact ⟨rfl, rfl⟩

set_option maxRecDepth 100000 in
set_option maxHeartbeats 1000000 in
theorem refGet_fits2 (A : Option Addr) (m c : Nat) (bs : List Bool) (k : Nat) (h1 : 1 ≤ k) (h2 : k ≤ 32) (h3 : k ≤ m) (hm : m ≤ 1048576) (hmc : m ≤ c) (w : World) (hs : SlB w A m c bs) :
    Calls Tryd.prog 48 #[.slice A m c, .int .i64 k] w fun e w' =>
      ∃ A', e = .returned (.tuple #[.int .i64 (num (bs.take k) : Nat), .slice A' (m - k) (c - k), .int .i64 0]) ∧ SlB w' A' (m - k) (c - k) (bs.drop k) ∧ (∃ nd, w' = w.drewN nd) ∧ ∀ a', A' = some a' → ∃ a, A = some a ∧ a'.block = a.block := by
  obtain ⟨b, off, rfl, _⟩ := sl_bool hs (j := 0) (by omega)
  have i1 : ¬ (k : Int) < 1 := by omega
  have i2 : ¬ 32 < (k : Int) := by omega
  have i3 : ¬ (m : Int) < k := by omega
  have HC := Lib.hid (hs.cut hmc h3 b off rfl)
  have HS := Lib.hid hs; clear hs
  go_enter Tryd.func48, Tryd.ntmps48
  go_wp2
  go_loop [7, 8] (fun n i => ∃ j : Nat, j ≤ k ∧ i = .int .i64 (j : Nat) ∧ n = .int .i64 (num (bs.take j) : Nat)) (fun _ i => k - (intOf i).toNat)
  case atStart => exact ⟨0, by omega, rfl, rfl⟩
  case round =>
    obtain ⟨j, hj, rfl, rfl⟩ := hrel
    obtain ⟨N, hN⟩ : ∃ N, N = num (bs.take j) := ⟨_, rfl⟩
    have hNb : N < 4294967296 := by
      have h := num_lt (bs.take j)
      have h4 : (bs.take j).length ≤ 32 := by rw [List.length_take]; omega
      have h5 : (2 : Nat) ^ (bs.take j).length ≤ 2 ^ 32 := Nat.pow_le_pow_right (by omega) h4
      omega
    rw [← hN]
    have HN := Lib.hid hN; clear hN
    by_cases hlt : j < k
    · obtain ⟨b', off', e', hc⟩ := sl_bool HS.out (j := j) (by omega)
      simp only [Option.some.injEq, Addr.mk.injEq, and_true] at e'
      obtain ⟨rfl, rfl⟩ := e'
      have hsucc : num (bs.take (j + 1)) = 2 * N + (bs.getD j false).toNat := by
        have hjl : j < bs.length := by have := HS.out.1; omega
        rw [List.take_succ_eq_append_getElem hjl, num_snoc, HN.out, List.getD_eq_getElem?_getD, List.getElem?_eq_getElem hjl]
        rfl
      obtain ⟨T, hT⟩ : ∃ T, T = bs.getD j false := ⟨_, rfl⟩
      rw [← hT] at hc hsucc
      have HU := Lib.hid hsucc; clear hsucc hT
      cases T
      all_goals
        go_wp2
        go_round
        case rel => exact ⟨j + 1, by omega, by go_num, by rw [HU.out]; go_num⟩
        case measure => simp [intOf]; omega
    · obtain rfl : j = k := by omega
      have i4 : (j : Int) ≤ m := by omega
      have i5 : (m : Int) ≤ c := by omega
      go_wp2_with fail
      go_quiet (fail)
      have HC' := HC.out
      clear HC
      have hblk : ∀ a', (if c = j then some (⟨b, off, none⟩ : Addr) else some ⟨b, off + j, none⟩) = some a' → ∃ a, some (⟨b, off, none⟩ : Addr) = some a ∧ a'.block = a.block := by
        intro a' ha'
        refine ⟨_, rfl, ?_⟩
        split at ha' <;> (injection ha' with ha'; rw [← ha'])
      generalize (if c = j then some (⟨b, off, none⟩ : Addr) else some ⟨b, off + j, none⟩) = A' at HC' hblk ⊢
      have HBK := Lib.hid hblk; clear hblk
      have HC := Lib.hid HC'; clear HC'
      go_wp2
      go_ret3
      exact ⟨A', by rw [HN.out]; rfl, HC.out, ⟨nq, rfl⟩, HBK.out⟩
theorem refGet_fits (A : Option Addr) (m c : Nat) (bs : List Bool) (k : Nat) (h1 : 1 ≤ k) (h2 : k ≤ 32) (h3 : k ≤ m) (hm : m ≤ 1048576) (hmc : m ≤ c) (w : World) (hs : SlB w A m c bs) :
    Calls Tryd.prog 48 #[.slice A m c, .int .i64 k] w fun e w' =>
      ∃ A', e = .returned (.tuple #[.int .i64 (num (bs.take k) : Nat), .slice A' (m - k) (c - k), .int .i64 0]) ∧ SlB w' A' (m - k) (c - k) (bs.drop k) ∧ ∃ nd, w' = w.drewN nd :=
  (refGet_fits2 A m c bs k h1 h2 h3 hm hmc w hs).mono fun _ _ ⟨A', e, h, hd, _⟩ => ⟨A', e, h, hd⟩
end Go.Proofs.YtamnhnleipnhdaaDoor
