/-
  (*bits.Writer).Put: what one call does to a writer that holds some bits.
-/
import Derived.Test.YthaonojcfmnjpaaBitsMath
import Derived.Test.YthaonojcfmnjpaaBitsLeaf
import Derived.Test.YthaonojcfmnjpaaMem
import Derived.Test.YthaonojcfmnjpaaBitsOps
import Derived.StillTailTactics
import Derived.Lib.Hide
namespace Go.Proofs.Ythaonojcfmnjpaa
open Go.RowKit
open BitsM

/-- The cells of a writer that holds the bits bs. -/
def wcells (bs : List Bool) : Array Value := ((List.range 1023).map fun i => Value.int .u8 (byteAt bs i)).toArray.push (.int .i64 bs.length)
theorem wcells_size (bs : List Bool) : (wcells bs).size = 1024 := by simp [wcells]
theorem wcells_byte (bs : List Bool) (i : Nat) (h : i < 1023) : (wcells bs)[i]? = some (.int .u8 (byteAt bs i)) := by
  have : i ≠ 1023 := by omega
  simp only [wcells, Array.getElem?_push, List.size_toArray, List.length_map, List.length_range, if_neg this, List.getElem?_toArray, List.getElem?_map, List.getElem?_range h, Option.map_some]
theorem wcells_held (bs : List Bool) : (wcells bs)[1023]? = some (.int .i64 bs.length) := by
  simp [wcells]
theorem wcells_snoc (bs : List Bool) (b : Bool) (h : bs.length < 8184) :
    ((wcells bs).setIfInBounds (bs.length / 8) (.int .u8 (byteAt (bs ++ [b]) (bs.length / 8)))).setIfInBounds 1023 (.int .i64 ((bs ++ [b]).length : Nat)) = wcells (bs ++ [b]) := by
  apply Array.ext_getElem?
  intro i
  rw [Array.getElem?_setIfInBounds, Array.getElem?_setIfInBounds]
  simp only [Array.size_setIfInBounds, wcells_size]
  by_cases h1 : 1023 = i
  · subst h1
    rw [wcells_held (bs ++ [b])]; simp
  · rw [if_neg h1]
    by_cases h2 : bs.length / 8 = i
    · subst h2
      rw [wcells_byte (bs ++ [b]) _ (by omega), if_pos rfl, if_pos (by omega)]
    · rw [if_neg h2]
      by_cases h3 : i < 1023
      · rw [wcells_byte _ _ h3, wcells_byte _ _ h3, byteAt_snoc_other _ _ _ (fun e => h2 e.symm)]
      · rw [Array.getElem?_eq_none (by rw [wcells_size]; omega), Array.getElem?_eq_none (by rw [wcells_size]; omega)]

/-- Block g is a writer that holds the bits bs. -/
def IsW (w : World) (g : Nat) (bs : List Bool) : Prop := bs.length ≤ 8184 ∧ Has w g 27 (wcells bs)


set_option maxHeartbeats 400000 in
theorem put_wide (p : Value) (n k : Int) (h : k < 1 ∨ 32 < k) (w : World) :
    Calls Try.prog 12 #[p, .int .i64 n, .int .i64 k] w fun e w' => e = .returned (.int .i64 1) ∧ w = w' := by
  go_enter Try.func12, Try.ntmps12
  go_wp2_with (first | (go_at_call 24; refine (widthFits_no _ h _).mono ?_; rintro e w' ⟨rfl, rfl⟩))
  go_ret
  exact ⟨rfl, rfl⟩

set_option maxHeartbeats 400000 in
theorem put_low (p : Value) (n k : Int) (h1 : 1 ≤ k) (h2 : k ≤ 32) (h : n < 0) (w : World) :
    Calls Try.prog 12 #[p, .int .i64 n, .int .i64 k] w fun e w' => e = .returned (.int .i64 1) ∧ w = w' := by
  go_enter Try.func12, Try.ntmps12
  go_wp2_with (first | (go_at_call 24; refine (widthFits_yes _ h1 h2 _).mono ?_; rintro e w' ⟨rfl, rfl⟩))
  go_ret
  exact ⟨rfl, rfl⟩


theorem top_of (k : Int) (h1 : 1 ≤ k) (h2 : k ≤ 32) : wrap64 (wrap64 (2 ^ k.toNat) - 1) = ((2 ^ k.toNat : Nat) : Int) - 1 := by
  have e : ((2 : Int) ^ k.toNat) = ((2 ^ k.toNat : Nat) : Int) := by simp
  have h : (2 : Nat) ^ k.toNat ≤ 2 ^ 32 := Nat.pow_le_pow_right (by omega) (by omega)
  have h0 : 0 < (2 : Nat) ^ k.toNat := Nat.two_pow_pos _
  rw [e]
  generalize (2 : Nat) ^ k.toNat = m at *
  have e1 : wrap64 (m : Int) = m := IntWalk.wrap64_in _ (by omega)
  rw [e1]
  exact IntWalk.wrap64_in _ (by omega)

set_option maxHeartbeats 400000 in
theorem put_high (p : Value) (n k : Int) (h1 : 1 ≤ k) (h2 : k ≤ 32) (h : ((2 ^ k.toNat : Nat) : Int) ≤ n) (w : World) :
    Calls Try.prog 12 #[p, .int .i64 n, .int .i64 k] w fun e w' => e = .returned (.int .i64 1) ∧ w = w' := by
  have h' : ¬ n < 0 := by have := Nat.two_pow_pos k.toNat; omega
  have ht : wrap64 (wrap64 (2 ^ k.toNat) - 1) < n := by rw [top_of k h1 h2]; omega
  clear h
  go_enter Try.func12, Try.ntmps12
  go_wp2_with (first | (go_at_call 24; refine (widthFits_yes _ h1 h2 _).mono ?_; rintro e w' ⟨rfl, rfl⟩))
  go_ret
  exact ⟨rfl, rfl⟩

set_option maxHeartbeats 400000 in
theorem put_none (n k : Int) (h1 : 1 ≤ k) (h2 : k ≤ 32) (h3 : 0 ≤ n) (h : n < ((2 ^ k.toNat : Nat) : Int)) (w : World) :
    Calls Try.prog 12 #[.pointer none, .int .i64 n, .int .i64 k] w fun e w' => e = .returned (.int .i64 2) ∧ w = w' := by
  have h' : ¬ n < 0 := by omega
  have ht : ¬ wrap64 (wrap64 (2 ^ k.toNat) - 1) < n := by rw [top_of k h1 h2]; omega
  clear h
  go_enter Try.func12, Try.ntmps12
  go_wp2_with (first | (go_at_call 24; refine (widthFits_yes _ h1 h2 _).mono ?_; rintro e w' ⟨rfl, rfl⟩))
  go_ret
  exact ⟨rfl, rfl⟩

set_option maxHeartbeats 400000 in
theorem put_full (g : Nat) (bs : List Bool) (n k : Int) (h1 : 1 ≤ k) (h2 : k ≤ 32) (h3 : 0 ≤ n) (h : n < ((2 ^ k.toNat : Nat) : Int)) (w : World) (hw : IsW w g bs) (hf : 8184 < bs.length + k) :
    Calls Try.prog 12 #[.pointer (some ⟨g, 0, none⟩), .int .i64 n, .int .i64 k] w fun e w' => e = .returned (.int .i64 2) ∧ w = w' := by
  have h' : ¬ n < 0 := by omega
  have ht : ¬ wrap64 (wrap64 (2 ^ k.toNat) - 1) < n := by rw [top_of k h1 h2]; omega
  clear h
  have hl := hw.1
  have hc : w.cell? ⟨g, 1023, none⟩ = some (.int .i64 bs.length) := by rw [hw.2.cell, wcells_held]
  go_enter Try.func12, Try.ntmps12
  go_wp2_with (first | (go_at_call 24; refine (widthFits_yes _ h1 h2 _).mono ?_; rintro e w' ⟨rfl, rfl⟩))
  go_ret
  exact ⟨rfl, rfl⟩

set_option maxRecDepth 100000 in
set_option maxHeartbeats 1000000 in
theorem put_fits (g : Nat) (bs : List Bool) (n k : Nat) (h1 : 1 ≤ k) (h2 : k ≤ 32) (h : n < 2 ^ k) (w : World) (hw : IsW w g bs) (hf : bs.length + k ≤ 8184) :
    Calls Try.prog 12 #[.pointer (some ⟨g, 0, none⟩), .int .i64 n, .int .i64 k] w fun e w' =>
      e = .returned (.int .i64 0) ∧ IsW w' g (bs ++ wbits n k k) ∧ w.grownBy w' (some g) := by
  have h' : ¬ (n : Int) < 0 := by omega
  have ht : ¬ wrap64 (wrap64 (2 ^ k) - 1) < (n : Int) := by have := top_of k (by omega) (by omega); simp only [Int.toNat_natCast] at this; rw [this]; omega
  have hl := hw.1
  have hc : w.cell? ⟨g, 1023, none⟩ = some (.int .i64 bs.length) := by rw [hw.2.cell, wcells_held]
  have h1' : (1 : Int) ≤ k := by omega
  have h2' : (k : Int) ≤ 32 := by omega
  go_enter Try.func12, Try.ntmps12
  go_wp2_with (first | (go_at_call 24; refine (widthFits_yes _ h1' h2' _).mono ?_; rintro e w' ⟨rfl, rfl⟩))
  go_loopw [7] (fun s wr => ∃ j : Nat, j ≤ k ∧ s = .int .i64 ((k : Int) - 1 - j) ∧ IsW wr g (bs ++ wbits n k j) ∧ w.grownBy wr (some g)) (fun s _ => (intOf s + 1).toNat)
  case atStart => exact ⟨0, by omega, by simp, by simpa [wbits_zero] using hw, only_refl _ _⟩
  case round =>
    obtain ⟨j, hj, rfl, hwj, hg⟩ := hrel
    obtain ⟨L, hL⟩ : ∃ L, L = bs.length + j := ⟨_, rfl⟩
    have hlen : (bs ++ wbits n k j).length = L := by simp [wbits_length, hL]
    have hcj : wr.cell? ⟨g, 1023, none⟩ = some (.int .i64 L) := by rw [hwj.2.cell, wcells_held, hlen]
    by_cases hlt : j < k
    · have hbj : wr.cell? ⟨g, L / 8, none⟩ = some (.int .u8 (byteAt (bs ++ wbits n k j) (L / 8))) := by rw [hwj.2.cell, wcells_byte _ _ (by omega)]
      have hfz := hwj.2.thaw (L / 8)
      have hfz2 := hwj.2.thaw 1023
      have hLb : L < 8184 := by omega
      have HL := Lib.hid hL; clear hL
      have Hlen := Lib.hid hlen; clear hlen
      clear hc
      have HW := Lib.hid hwj; clear hwj
      have HG := Lib.hid hg; clear hg
      have x0 : (0 : Int) ≤ (L : Int) / 8 := by omega
      have x1 : (L : Int) / 8 < 1023 := by omega
      go_wp2_with fail
      have e1 : IntKind.i64.wrap ((L : Int) / 8) = (L : Int) / 8 := IntWalk.i64_in _ (by omega)
      have e2 : ((L : Int) / 8).toNat = L / 8 := by omega
      go_still_tail 25, (by kernel_rfl)
      repeat still_step
      still_call ((bitShift_any (L : Int) (by omega) (by omega) _).mono fun _ _ h => ⟨h.1, h.2.symm⟩)
      repeat still_step
      refine wpStill_nil ?_
      change wpList _ _ _ _ _ wr.drew
      go_wp2_with fail
      go_roundw
      case rel =>
        have HW' := HW.out
        have hb := put_byte (byteAt (bs ++ wbits n k j) (L / 8)) n (k - 1 - j) (7 - L % 8) (byteAt_lt _ _) (by have : (2 : Nat) ^ k ≤ 2 ^ 32 := Nat.pow_le_pow_right (by omega) h2; omega) (by omega)
        have hlen := Hlen.out
        refine ⟨j + 1, by omega, by go_num, ⟨by simp [wbits_length]; omega, ?_⟩, ?_⟩
        · rw [wbits_succ, ← List.append_assoc, ← wcells_snoc _ _ (by omega), hlen]
          have hs := byteAt_snoc_same (bs ++ wbits n k j) (n.testBit (k - 1 - j))
          rw [hlen] at hs
          rw [hs, ← hb]
          have hL1 : ((L : Int) + 1) = (((bs ++ wbits n k j ++ [n.testBit (k - 1 - j)]).length : Nat) : Int) := by rw [List.length_append, hlen]; simp
          rw [← hL1]
          exact ((HW'.2.stored _ _).stored _ _).draw
        · exact only_draw (only_store (only_store HG.out rfl _) rfl _)
      case measure => simp [intOf]; omega
    · go_wp2
      go_ret
      obtain rfl : j = k := by omega
      exact ⟨rfl, hwj, hg⟩
end Go.Proofs.Ythaonojcfmnjpaa
