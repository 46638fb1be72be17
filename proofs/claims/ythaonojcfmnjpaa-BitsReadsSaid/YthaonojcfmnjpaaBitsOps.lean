/-
  Go's operators on bits, of numbers that are not below nought.
-/
import Derived.WalkKit
import Derived.Laws.BitsAllLaws
namespace Go.Proofs.Ythaonojcfmnjpaa
open Go.RowKit

/-- A number below 2^63 is itself, seen as 64 bits and seen as an int. -/
theorem low63 {a : Nat} (ha : a < 2 ^ 63) : (BitVec.ofInt 64 (a : Int)).toNat = a ∧ IntKind.i64.wrap (a : Int) = (a : Int) := by
  refine ⟨?_, IntWalk.i64_in _ (by omega)⟩
  simp only [BitVec.ofInt_natCast, BitVec.toNat_ofNat]
  omega
theorem and_i64 (a b : Nat) (ha : a < 9223372036854775808) (hb : b < 9223372036854775808) : bits .and .i64 (a : Int) (b : Int) = ((a &&& b : Nat) : Int) := by
  have e : (BitVec.ofInt 64 (a : Int) &&& BitVec.ofInt 64 (b : Int)).toNat = a &&& b := by
    simp only [BitVec.toNat_and, (low63 (a := a) (by omega)).1, (low63 (a := b) (by omega)).1]
  have h := (low63 (a := a &&& b) (Nat.and_lt_two_pow _ (by omega))).2
  rw [← h, ← e]
  rfl
theorem or_i64 (a b : Nat) (ha : a < 9223372036854775808) (hb : b < 9223372036854775808) : bits .or .i64 (a : Int) (b : Int) = ((a ||| b : Nat) : Int) := by
  have e : (BitVec.ofInt 64 (a : Int) ||| BitVec.ofInt 64 (b : Int)).toNat = a ||| b := by
    simp only [BitVec.toNat_or, (low63 (a := a) (by omega)).1, (low63 (a := b) (by omega)).1]
  have h := (low63 (a := a ||| b) (Nat.or_lt_two_pow (by omega) (by omega))).2
  rw [← h, ← e]
  rfl

theorem testBit_nat (n s : Nat) : (n.testBit s).toNat = n / 2 ^ s % 2 := by
  rw [Nat.testBit_eq_decide_div_mod_eq]
  have : n / 2 ^ s % 2 < 2 := Nat.mod_lt _ (by omega)
  by_cases h : n / 2 ^ s % 2 = 1
  · simp [h]
  · have h0 : n / 2 ^ s % 2 = 0 := by omega
    simp [h0]

theorem and_one (n s : Nat) (hn : n < 9223372036854775808) : bits .and .i64 ((n : Int) / 2 ^ s) 1 = (((n.testBit s).toNat : Nat) : Int) := by
  have e : ((n : Int) / 2 ^ s) = ((n / 2 ^ s : Nat) : Int) := by simp
  have hle : n / 2 ^ s ≤ n := Nat.div_le_self _ _
  rw [e, testBit_nat, ← nat_mask1]
  exact and_i64 _ 1 (by omega) (by omega)

/-- The byte that a put stores for one bit. -/
theorem put_byte (old n s t : Nat) (ho : old < 256) (hn : n < 9223372036854775808) (ht : t ≤ 7) :
    bits .or .u8 (old : Int) (bits .and .i64 ((n : Int) / 2 ^ s) 1 % 256 * 2 ^ t % 256) = ((old ||| ((n.testBit s).toNat <<< t) : Nat) : Int) := by
  rw [and_one n s hn, Nat.shiftLeft_eq]
  have hb : (n.testBit s).toNat ≤ 1 := Bool.toNat_le _
  generalize (n.testBit s).toNat = b at *
  have h2 : (2 : Nat) ^ t ≤ 2 ^ 7 := Nat.pow_le_pow_right (by omega) ht
  have hm : b * 2 ^ t ≤ 1 * 2 ^ 7 := Nat.mul_le_mul hb h2
  have e : ((b : Int) % 256 * 2 ^ t % 256) = ((b * 2 ^ t : Nat) : Int) := by
    have e1 : (b : Int) % 256 = b := by omega
    have e2 : ((b : Int) * 2 ^ t) = ((b * 2 ^ t : Nat) : Int) := by simp
    rw [e1, e2]
    omega
  rw [e]
  exact u8_or_nat _ _ ho (by omega)

/-- One round of a get: the number so far twice, and one bit more. -/
theorem get_bit (n b s : Nat) (hn : n < 2147483648) (hb : b < 256) :
    bits .or .i64 ((n : Int) * 2) (wrap64 (bits .and .u8 ((b : Int) / 2 ^ s) 1)) = ((2 * n + (b.testBit s).toNat : Nat) : Int) := by
  have e : ((b : Int) / 2 ^ s) = ((b / 2 ^ s : Nat) : Int) := by simp
  have hle : b / 2 ^ s ≤ b := Nat.div_le_self _ _
  have h1 : bits .and .u8 ((b : Int) / 2 ^ s) 1 = (((b.testBit s).toNat : Nat) : Int) := by
    rw [e, testBit_nat, ← nat_mask1]
    exact u8_and_nat _ 1 (by omega) (by omega)
  have h2 : (b.testBit s).toNat ≤ 1 := Bool.toNat_le _
  rw [h1]
  generalize (b.testBit s).toNat = t at *
  have e3 : wrap64 (t : Int) = t := IntWalk.wrap64_in _ (by omega)
  have e4 : (n : Int) * 2 = ((2 * n : Nat) : Int) := by omega
  rw [e3, e4, or_i64 _ _ (by omega) (by omega)]
  rw [nat_join 1 (2 * n) t (by omega) (by omega)]

end Go.Proofs.Ythaonojcfmnjpaa
