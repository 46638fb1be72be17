/-
  cipher: turns of a word, a round and its inverse, split and join.
-/
import Derived.Test.YtekcnmimfhiblaaCiRef
namespace Go.Proofs.Ytekcnmimfhiblaa
open Go.RowKit

set_option maxHeartbeats 1000000 in
theorem rotl3_any (x : Nat) (h : x < 4294967296) (w : World) :
    Calls Try.prog 81 #[.int .u32 (x : Nat), .int .i64 (3)] w fun e w' => e = .returned (.int .u32 (rl3 x : Nat)) ∧ Below w.heap.size w w' := by
  have ho : bits .or .u32 ((x : Int) * 8 % 4294967296) ((x : Int) / 536870912) = (rl3 x : Nat) := by
    have h2 := or32 (rl3_or x h) (by omega) (by omega)
    simp only [Int.natCast_ediv, Int.natCast_emod, Int.natCast_mul, Int.cast_ofNat_Int] at h2
    exact h2
  have hm : bits .and .u64 (3 : Int) 31 = 3 := by kernel_rfl
  go_enter Try.func81, Try.ntmps81
  go_wp2
  go_ret
  exact ⟨rfl, Below.refl _ _⟩
set_option maxHeartbeats 1000000 in
theorem rotl8_any (x : Nat) (h : x < 4294967296) (w : World) :
    Calls Try.prog 81 #[.int .u32 (x : Nat), .int .i64 (8)] w fun e w' => e = .returned (.int .u32 (rl8 x : Nat)) ∧ Below w.heap.size w w' := by
  have ho : bits .or .u32 ((x : Int) * 256 % 4294967296) ((x : Int) / 16777216) = (rl8 x : Nat) := by
    have h2 := or32 (rl8_or x h) (by omega) (by omega)
    simp only [Int.natCast_ediv, Int.natCast_emod, Int.natCast_mul, Int.cast_ofNat_Int] at h2
    exact h2
  have hm : bits .and .u64 (8 : Int) 31 = 8 := by kernel_rfl
  go_enter Try.func81, Try.ntmps81
  go_wp2
  go_ret
  exact ⟨rfl, Below.refl _ _⟩
set_option maxHeartbeats 1000000 in
theorem rotr8_any (x : Nat) (h : x < 4294967296) (w : World) :
    Calls Try.prog 81 #[.int .u32 (x : Nat), .int .i64 (-8)] w fun e w' => e = .returned (.int .u32 (rr8 x : Nat)) ∧ Below w.heap.size w w' := by
  have ho : bits .or .u32 ((x : Int) * 16777216 % 4294967296) ((x : Int) / 256) = (rr8 x : Nat) := by
    have h2 := or32 ((Nat.or_comm _ _).trans (rr8_or x h)) (by omega) (by omega)
    simp only [Int.natCast_ediv, Int.natCast_emod, Int.natCast_mul, Int.cast_ofNat_Int] at h2
    exact h2
  have hm : bits .and .u64 (IntKind.u64.wrap (-8)) 31 = 24 := by kernel_rfl
  go_enter Try.func81, Try.ntmps81
  go_wp2
  go_ret
  exact ⟨rfl, Below.refl _ _⟩
set_option maxHeartbeats 1000000 in
theorem rotr3_any (x : Nat) (h : x < 4294967296) (w : World) :
    Calls Try.prog 81 #[.int .u32 (x : Nat), .int .i64 (-3)] w fun e w' => e = .returned (.int .u32 (rr3 x : Nat)) ∧ Below w.heap.size w w' := by
  have ho : bits .or .u32 ((x : Int) * 536870912 % 4294967296) ((x : Int) / 8) = (rr3 x : Nat) := by
    have h2 := or32 ((Nat.or_comm _ _).trans (rr3_or x h)) (by omega) (by omega)
    simp only [Int.natCast_ediv, Int.natCast_emod, Int.natCast_mul, Int.cast_ofNat_Int] at h2
    exact h2
  have hm : bits .and .u64 (IntKind.u64.wrap (-3)) 31 = 29 := by kernel_rfl
  go_enter Try.func81, Try.ntmps81
  go_wp2
  go_ret
  exact ⟨rfl, Below.refl _ _⟩
theorem oleft3_any (x : Nat) (h : x < 4294967296) (w : World) :
    Calls Try.prog 80 #[.int .u32 (x : Nat), .int .i64 3] w fun e w' => e = .returned (.int .u32 (rl3 x : Nat)) ∧ Below w.heap.size w w' := by
  have HR := Lib.hid (fun W => rotl3_any x h W)
  go_enter Try.func80, Try.ntmps80
  go_wp2_with fail
  refine (HR.out _).mono ?_
  rintro e w1 ⟨rfl, hb1⟩
  have HB := Lib.hid hb1
  clear hb1 HR
  go_wp2
  go_ret
  exact ⟨rfl, HB.out⟩
theorem oleft8_any (x : Nat) (h : x < 4294967296) (w : World) :
    Calls Try.prog 80 #[.int .u32 (x : Nat), .int .i64 8] w fun e w' => e = .returned (.int .u32 (rl8 x : Nat)) ∧ Below w.heap.size w w' := by
  have HR := Lib.hid (fun W => rotl8_any x h W)
  go_enter Try.func80, Try.ntmps80
  go_wp2_with fail
  refine (HR.out _).mono ?_
  rintro e w1 ⟨rfl, hb1⟩
  have HB := Lib.hid hb1
  clear hb1 HR
  go_wp2
  go_ret
  exact ⟨rfl, HB.out⟩
theorem oright3_any (x : Nat) (h : x < 4294967296) (w : World) :
    Calls Try.prog 79 #[.int .u32 (x : Nat), .int .i64 3] w fun e w' => e = .returned (.int .u32 (rr3 x : Nat)) ∧ Below w.heap.size w w' := by
  have HR := Lib.hid (fun W => rotr3_any x h W)
  go_enter Try.func79, Try.ntmps79
  go_wp2_with fail
  refine (HR.out _).mono ?_
  rintro e w1 ⟨rfl, hb1⟩
  have HB := Lib.hid hb1
  clear hb1 HR
  go_wp2
  go_ret
  exact ⟨rfl, HB.out⟩
theorem oright8_any (x : Nat) (h : x < 4294967296) (w : World) :
    Calls Try.prog 79 #[.int .u32 (x : Nat), .int .i64 8] w fun e w' => e = .returned (.int .u32 (rr8 x : Nat)) ∧ Below w.heap.size w w' := by
  have HR := Lib.hid (fun W => rotr8_any x h W)
  go_enter Try.func79, Try.ntmps79
  go_wp2_with fail
  refine (HR.out _).mono ?_
  rintro e w1 ⟨rfl, hb1⟩
  have HB := Lib.hid hb1
  clear hb1 HR
  go_wp2
  go_ret
  exact ⟨rfl, HB.out⟩

theorem oround_any (x y r : Nat) (hx : x < 4294967296) (hy : y < 4294967296) (hr : r < 4294967296) (w : World) :
    Calls Try.prog 75 #[.int .u32 (x : Nat), .int .u32 (y : Nat), .int .u32 (r : Nat)] w fun e w' => e = .returned (.tuple #[.int .u32 ((rr8 x + y) % 4294967296 ^^^ r : Nat), .int .u32 (rl3 y ^^^ ((rr8 x + y) % 4294967296 ^^^ r) : Nat)]) ∧ Below w.heap.size w w' := by
  have HR8 := Lib.hid (fun W => oright8_any x hx W)
  have HL3 := Lib.hid (fun W => oleft3_any y hy W)
  have hx8 := rr8_lt hx
  have hy3 := rl3_lt hy
  obtain ⟨u, hu⟩ : ∃ u, (rr8 x + y) % 4294967296 ^^^ r = u := ⟨_, rfl⟩
  obtain ⟨v, hv⟩ : ∃ v, rl3 y ^^^ u = v := ⟨_, rfl⟩
  rw [hu, hv]
  have hu2 : u < 4294967296 := by rw [← hu]; exact xor32 (by omega) hr
  have hv2 : v < 4294967296 := by rw [← hv]; exact xor32 hy3 hu2
  have hxu := xor32i hu (by omega) hr
  have hxv := xor32i hv hy3 hu2
  generalize rr8 x = r8 at *
  generalize rl3 y = l3 at *
  have hxu2 : bits .xor .u32 ((((r8 : Nat) : Int) + ((y : Nat) : Int)) % 4294967296) ((r : Nat) : Int) = (u : Nat) := by
    simp only [Int.natCast_emod, Int.natCast_add, Int.cast_ofNat_Int] at hxu
    exact hxu
  clear hu hv hxu
  go_enter Try.func75, Try.ntmps75
  go_wp2_with fail
  refine (HR8.out _).mono ?_
  rintro e w1 ⟨rfl, hb1⟩
  have HB1 := Lib.hid hb1
  clear hb1 HR8
  go_wp2_with fail
  refine (HL3.out _).mono ?_
  rintro e w2 ⟨rfl, hb2⟩
  have HB := Lib.hid (HB1.out.trans (hb2.mono HB1.out.size))
  clear hb2 HB1 HL3
  go_wp2
  go_ret2
  exact ⟨rfl, HB.out⟩
theorem osplit_any (b : Nat) (hb : b < 18446744073709551616) (w : World) :
    Calls Try.prog 74 #[.int .u64 (b : Nat)] w fun e w' => e = .returned (.tuple #[.int .u32 (b / 4294967296 : Nat), .int .u32 (b % 4294967296 : Nat)]) ∧ Below w.heap.size w w' := by
  go_enter Try.func74, Try.ntmps74
  go_wp2
  go_ret2
  exact ⟨by go_num, Below.refl _ _⟩
theorem ojoin_any (x y : Nat) (hx : x < 4294967296) (hy : y < 4294967296) (w : World) :
    Calls Try.prog 76 #[.int .u32 (x : Nat), .int .u32 (y : Nat)] w fun e w' => e = .returned (.int .u64 (x * 4294967296 + y : Nat)) ∧ Below w.heap.size w w' := by
  have ho : bits .or .u64 (((x : Nat) : Int) * 4294967296) ((y : Nat) : Int) = ((x * 4294967296 + y : Nat) : Int) := or64 hx hy
  have hs : ((x : Int) * 4294967296) % 18446744073709551616 = (x : Int) * 4294967296 := by omega
  go_enter Try.func76, Try.ntmps76
  go_wp2
  go_ret
  exact ⟨rfl, Below.refl _ _⟩
end Go.Proofs.Ytekcnmimfhiblaa
