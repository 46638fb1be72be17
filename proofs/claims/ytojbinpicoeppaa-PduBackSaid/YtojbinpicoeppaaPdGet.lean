/-
  linesideref09.get, by contract.
-/
import Derived.Test.YtojbinpicoeppaaPdEnc
namespace Go.Proofs.Ytojbinpicoeppaa
open Go.RowKit

set_option maxRecDepth 100000 in
set_option maxHeartbeats 2000000 in
theorem ref_get (A : Option Addr) (c : Nat) (xs : List Nat) (i m : Nat) (I M : Int) (hI : I = (i : Nat)) (hM : M = (m : Nat)) (hm : m ≤ 8) (w : World) (ha : At8 w A xs) (hb : bytes8 xs) (hn : xs.length ≤ 2000) (hi : i ≤ 100000) :
    Calls Try.prog 28 #[.slice A xs.length c, .int .i64 I, .int .i64 M] w fun e w' => e = .returned (.int .u64 (pdGet xs i m : Nat)) ∧ w = w' := by
  subst hI; subst hM
  have HA := Lib.hid ha; have HBY := Lib.hid hb
  by_cases hin : i + m ≤ xs.length
  · have HG : Hid (pdGet xs i m = chunkT xs i m) := Lib.hid (by unfold pdGet; rw [if_pos hin])
    have x0 : ¬ (i : Int) < 0 := by omega
    have x1 : ¬ (xs.length : Int) < (i : Int) + (m : Int) := by omega
    clear ha hb
    go_enter Try.func28, Try.ntmps28
    go_wp2
    go_loopw [7, 8] (fun s7 s8 wr => ∃ t n : Nat, s7 = .int .u64 (n : Nat) ∧ n = chunkT xs i t ∧ s8 = .int .i64 ((i + t : Nat) : Int) ∧ t ≤ m ∧ wr = w) (fun _ s8 _ => i + m - (intOf s8).toNat)
    case atStart => exact ⟨0, 0, rfl, rfl, rfl, by omega, rfl⟩
    case round =>
      obtain ⟨t, n, rfl, hnn, rfl, ht, hww⟩ := hrel
      subst hww
      by_cases htm : t < m
      · have hn56 : n < 72057594037927936 := by rw [hnn]; exact chunkT_56 HBY.out i t (by omega)
        have hn1 : chunkT xs i (t + 1) = n * 256 + xs.getD (i + t) 0 := by rw [chunkT, ← hnn]
        have hy8 := getD_lt HBY.out (i + t)
        obtain ⟨b0, o0, rfl, f0⟩ := at8_at8 HA.out (j := i + t) (by omega)
        have y0 : ((i + t : Nat) : Int) < (i : Int) + (m : Int) := by omega
        have y1 : ((i + t : Nat) : Int) < (xs.length : Int) := by omega
        have y2 : (0 : Int) ≤ ((i + t : Nat) : Int) := by omega
        generalize xs.getD (i + t) 0 = v at *
        have HN1 := Lib.hid hn1
        clear hn1 hnn
        obtain ⟨p, hp⟩ : ∃ p, i + t = p := ⟨_, rfl⟩
        rw [hp] at y0 y1 y2 f0 ⊢
        go_wp2
        go_roundw
        case rel => exact ⟨t + 1, n * 256 + v, by go_num, HN1.out.symm, by go_num, by omega, trivial⟩
        case measure => simp [intOf]; omega
      obtain rfl : t = m := by omega
      have y0 : ¬ ((i + t : Nat) : Int) < (i : Int) + (t : Int) := by omega
      have HNN := Lib.hid hnn
      clear hnn
      go_wp2
      go_ret
      exact ⟨by rw [HG.out, ← HNN.out]; rfl, rfl⟩
  · have HG : Hid (pdGet xs i m = 0) := Lib.hid (by unfold pdGet; rw [if_neg hin])
    have x0 : ¬ (i : Int) < 0 := by omega
    have x1 : (xs.length : Int) < (i : Int) + (m : Int) := by omega
    clear ha hb
    go_enter Try.func28, Try.ntmps28
    go_wp2
    go_ret
    exact ⟨by rw [HG.out]; rfl, rfl⟩
set_option maxRecDepth 100000 in
set_option maxHeartbeats 2000000 in
/-- A place ahead of the first byte has nothing. -/
theorem ref_get_neg (A : Option Addr) (c n : Nat) (I M : Int) (hI : I < 0) (w : World) :
    Calls Try.prog 28 #[.slice A n c, .int .i64 I, .int .i64 M] w fun e w' => e = .returned (.int .u64 0) ∧ w = w' := by
  go_enter Try.func28, Try.ntmps28
  go_wp2
  go_ret
  exact ⟨rfl, rfl⟩
/-- The last eight bytes, or nothing. -/
theorem ref_get_end (A : Option Addr) (c : Nat) (xs : List Nat) (I : Int) (hI : I = (xs.length : Nat) - (8 : Int)) (w : World) (ha : At8 w A xs) (hb : bytes8 xs) (hn : xs.length ≤ 2000) :
    Calls Try.prog 28 #[.slice A xs.length c, .int .i64 I, .int .i64 8] w fun e w' => e = .returned (.int .u64 (pdGet xs (xs.length - 8) 8 : Nat)) ∧ w = w' := by
  by_cases h8 : 8 ≤ xs.length
  · exact ref_get A c xs (xs.length - 8) 8 I 8 (by omega) rfl (by decide) w ha hb hn (by omega)
  · have h0 : pdGet xs (xs.length - 8) 8 = 0 := by unfold pdGet; rw [if_neg (by omega)]
    rw [h0]
    exact ref_get_neg A c xs.length I 8 (by omega) w
end Go.Proofs.Ytojbinpicoeppaa
