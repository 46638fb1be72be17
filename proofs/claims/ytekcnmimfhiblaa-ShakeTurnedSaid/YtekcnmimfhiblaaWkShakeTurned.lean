/-
  linesidelaw10.ShakeTurned, over integer literals.
-/
import Derived.Test.YtekcnmimfhiblaaLawShakeTurned
namespace Go.Proofs.Ytekcnmimfhiblaa
open Go.RowKit
open Go.Great

theorem shakeTurned_walk (base : Key4) (train : Int) (a : Int) (b : Int) (A : Option Addr) (n c : Nat) (xs : List Nat) (at_ : Int) (y : Int) (w : World) (hbase : base.ok) (w_train : (Lit.int .i64 train).wf = true) (w_a : (Lit.int .u32 a).wf = true) (w_b : (Lit.int .u32 b).wf = true) (hin : InBody w A n c xs) (w_at_ : (Lit.int .i64 at_).wf = true) (w_y : (Lit.int .u8 y).wf = true) :
    Calls Try.prog 7 #[keyV base, .int .i64 train, .int .u32 a, .int .u32 b, .slice A n c, .int .i64 at_, .int .u8 y] w fun e w' => e = .returned (.bool true) ∧ Below w.heap.size w w' := by
  have u_w_train : -9223372036854775808 ≤ train ∧ train ≤ 9223372036854775807 := by simpa [Lit.wf, IntKind.min, IntKind.max, IntKind.signed, IntKind.bits] using w_train
  obtain ⟨a, rfl, u_w_a⟩ := u32_nat w_a
  obtain ⟨b, rfl, u_w_b⟩ := u32_nat w_b
  have u_w_at_ : -9223372036854775808 ≤ at_ ∧ at_ ≤ 9223372036854775807 := by simpa [Lit.wf, IntKind.min, IntKind.max, IntKind.signed, IntKind.bits] using w_at_
  obtain ⟨y, rfl, u_w_y⟩ : ∃ m : Nat, y = m ∧ m < 256 := by
    have hx : 0 ≤ y ∧ y ≤ 255 := by simpa [Lit.wf, IntKind.min, IntKind.max, IntKind.signed, IntKind.bits] using w_y
    exact ⟨y.toNat, by omega, by omega⟩
  exact shakeTurned_at base train a b A n c xs at_ y w hbase u_w_train.1 u_w_train.2 u_w_a u_w_b hin u_w_at_.1 u_w_at_.2 u_w_y
end Go.Proofs.Ytekcnmimfhiblaa
