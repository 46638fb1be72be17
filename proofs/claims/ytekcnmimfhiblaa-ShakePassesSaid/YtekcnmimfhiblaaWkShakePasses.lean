/-
  linesidelaw10.ShakePasses, over integer literals.
-/
import Derived.Test.YtekcnmimfhiblaaLawShakePasses
namespace Go.Proofs.Ytekcnmimfhiblaa
open Go.RowKit
open Go.Great

theorem shakePasses_walk (base : Key4) (train : Int) (a : Int) (b : Int) (A : Option Addr) (n c : Nat) (xs : List Nat) (side : Bool) (y : Int) (w : World) (hbase : base.ok) (w_train : (Lit.int .i64 train).wf = true) (w_a : (Lit.int .u32 a).wf = true) (w_b : (Lit.int .u32 b).wf = true) (hin : InBody w A n c xs) (w_y : (Lit.int .u8 y).wf = true) :
    Calls Try.prog 5 #[keyV base, .int .i64 train, .int .u32 a, .int .u32 b, .slice A n c, .bool side, .int .u8 y] w fun e w' => e = .returned (.bool true) ∧ Below w.heap.size w w' := by
  have u_w_train : -9223372036854775808 ≤ train ∧ train ≤ 9223372036854775807 := by simpa [Lit.wf, IntKind.min, IntKind.max, IntKind.signed, IntKind.bits] using w_train
  obtain ⟨a, rfl, u_w_a⟩ := u32_nat w_a
  obtain ⟨b, rfl, u_w_b⟩ := u32_nat w_b
  obtain ⟨y, rfl, u_w_y⟩ : ∃ m : Nat, y = m ∧ m < 256 := by
    have hx : 0 ≤ y ∧ y ≤ 255 := by simpa [Lit.wf, IntKind.min, IntKind.max, IntKind.signed, IntKind.bits] using w_y
    exact ⟨y.toNat, by omega, by omega⟩
  exact shakePasses_at base train a b A n c xs side y w hbase u_w_train.1 u_w_train.2 u_w_a u_w_b hin u_w_y
end Go.Proofs.Ytekcnmimfhiblaa
