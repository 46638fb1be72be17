/-
  linesideref07: left, right.
-/
import Derived.Test.YtekcnmimfhiblaaMgB
import Derived.Test.YtekcnmimfhiblaaMgA
import Derived.BigQuiet
import Derived.Laws.BitsAllLaws
import Derived.Deep.QuietTactic
namespace Go.Proofs.Ytekcnmimfhiblaa
open Go.RowKit

theorem or_parts {a b k : Nat} (hb : b < 2 ^ k) : 2 ^ k * a ||| b = 2 ^ k * a + b := (Nat.two_pow_add_eq_or_of_lt hb a).symm
/-- Two parts that have no bit in common, as the walk spells them. -/
theorem or32 {p q r : Nat} (h : p ||| q = r) (hp : p < 4294967296) (hq : q < 4294967296) : bits .or .u32 (p : Int) (q : Int) = (r : Nat) := by
  rw [u32_or_nat p q hp hq, h]
theorem rr8_or (x : Nat) (h : x < 4294967296) : (x / 256) ||| (x * 16777216 % 4294967296) = rr8 x := by
  have e : x * 16777216 % 4294967296 = 2 ^ 24 * (x % 256) := by
    have : (2 : Nat) ^ 24 = 16777216 := by decide
    rw [this]; omega
  rw [e, Nat.or_comm, or_parts (by have : (2 : Nat) ^ 24 = 16777216 := by decide
                                   rw [this]; omega)]
  unfold rr8
  have : (2 : Nat) ^ 24 = 16777216 := by decide
  rw [this]; omega
theorem rr3_or (x : Nat) (h : x < 4294967296) : (x / 8) ||| (x * 536870912 % 4294967296) = rr3 x := by
  have p : (2 : Nat) ^ 29 = 536870912 := by decide
  have e : x * 536870912 % 4294967296 = 2 ^ 29 * (x % 8) := by rw [p]; omega
  rw [e, Nat.or_comm, or_parts (by rw [p]; omega), p]
  unfold rr3
  omega
theorem rl3_or (x : Nat) (h : x < 4294967296) : (x * 8 % 4294967296) ||| (x / 536870912) = rl3 x := by
  have p : (2 : Nat) ^ 3 = 8 := by decide
  have e : x * 8 % 4294967296 = 2 ^ 3 * (x % 536870912) := by rw [p]; omega
  rw [e, or_parts (by rw [p]; omega), p]
  unfold rl3
  omega
theorem rl8_or (x : Nat) (h : x < 4294967296) : (x * 256 % 4294967296) ||| (x / 16777216) = rl8 x := by
  have p : (2 : Nat) ^ 8 = 256 := by decide
  have e : x * 256 % 4294967296 = 2 ^ 8 * (x % 16777216) := by rw [p]; omega
  rw [e, or_parts (by rw [p]; omega), p]
  unfold rl8
  omega

set_option maxHeartbeats 1000000 in
theorem right8_any (x : Nat) (h : x < 4294967296) (w : World) :
    Calls Try.prog 67 #[.int .u32 (x : Nat), .int .i64 8] w fun e w' => e = .returned (.int .u32 (rr8 x : Nat)) ∧ Below w.heap.size w w' := by
  have ho : bits .or .u32 ((x : Int) / 256) ((x : Int) * 16777216 % 4294967296) = (rr8 x : Nat) := by
    have h2 := or32 (rr8_or x h) (by omega) (by omega)
    simp only [Int.natCast_ediv, Int.natCast_emod, Int.natCast_mul, Int.cast_ofNat_Int] at h2
    exact h2
  go_enter Try.func67, Try.ntmps67
  go_wp2
  go_quiet (fail)
  go_wp2
  go_ret
  exact ⟨rfl, below_draws (Below.refl _ _) nq⟩
set_option maxHeartbeats 1000000 in
theorem right3_any (x : Nat) (h : x < 4294967296) (w : World) :
    Calls Try.prog 67 #[.int .u32 (x : Nat), .int .i64 3] w fun e w' => e = .returned (.int .u32 (rr3 x : Nat)) ∧ Below w.heap.size w w' := by
  have ho : bits .or .u32 ((x : Int) / 8) ((x : Int) * 536870912 % 4294967296) = (rr3 x : Nat) := by
    have h2 := or32 (rr3_or x h) (by omega) (by omega)
    simp only [Int.natCast_ediv, Int.natCast_emod, Int.natCast_mul, Int.cast_ofNat_Int] at h2
    exact h2
  go_enter Try.func67, Try.ntmps67
  go_wp2
  go_quiet (fail)
  go_wp2
  go_ret
  exact ⟨rfl, below_draws (Below.refl _ _) nq⟩
set_option maxHeartbeats 1000000 in
theorem left3_any (x : Nat) (h : x < 4294967296) (w : World) :
    Calls Try.prog 68 #[.int .u32 (x : Nat), .int .i64 3] w fun e w' => e = .returned (.int .u32 (rl3 x : Nat)) ∧ Below w.heap.size w w' := by
  have ho : bits .or .u32 ((x : Int) * 8 % 4294967296) ((x : Int) / 536870912) = (rl3 x : Nat) := by
    have h2 := or32 (rl3_or x h) (by omega) (by omega)
    simp only [Int.natCast_ediv, Int.natCast_emod, Int.natCast_mul, Int.cast_ofNat_Int] at h2
    exact h2
  go_enter Try.func68, Try.ntmps68
  go_wp2
  go_quiet (fail)
  go_wp2
  go_ret
  exact ⟨rfl, below_draws (Below.refl _ _) nq⟩
set_option maxHeartbeats 1000000 in
theorem left8_any (x : Nat) (h : x < 4294967296) (w : World) :
    Calls Try.prog 68 #[.int .u32 (x : Nat), .int .i64 8] w fun e w' => e = .returned (.int .u32 (rl8 x : Nat)) ∧ Below w.heap.size w w' := by
  have ho : bits .or .u32 ((x : Int) * 256 % 4294967296) ((x : Int) / 16777216) = (rl8 x : Nat) := by
    have h2 := or32 (rl8_or x h) (by omega) (by omega)
    simp only [Int.natCast_ediv, Int.natCast_emod, Int.natCast_mul, Int.cast_ofNat_Int] at h2
    exact h2
  go_enter Try.func68, Try.ntmps68
  go_wp2
  go_quiet (fail)
  go_wp2
  go_ret
  exact ⟨rfl, below_draws (Below.refl _ _) nq⟩
end Go.Proofs.Ytekcnmimfhiblaa
