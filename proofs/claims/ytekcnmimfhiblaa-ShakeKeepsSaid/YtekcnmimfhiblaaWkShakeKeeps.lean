/-
  linesidelaw10.ShakeKeeps, over integer literals.
-/
import Derived.Test.YtekcnmimfhiblaaLawShakeKeeps
namespace Go.Proofs.Ytekcnmimfhiblaa
open Go.RowKit
open Go.Great

theorem shakeKeeps_walk (base : Key4) (train : Int) (a : Int) (b : Int) (c' : Int) (d' : Int) (A : Option Addr) (n c : Nat) (xs : List Nat) (w : World) (hbase : base.ok) (w_train : (Lit.int .i64 train).wf = true) (w_a : (Lit.int .u32 a).wf = true) (w_b : (Lit.int .u32 b).wf = true) (w_c_ : (Lit.int .u32 c').wf = true) (w_d_ : (Lit.int .u32 d').wf = true) (hin : InBody w A n c xs) :
    Calls Try.prog 8 #[keyV base, .int .i64 train, .int .u32 a, .int .u32 b, .int .u32 c', .int .u32 d', .slice A n c] w fun e w' => e = .returned (.bool true) ∧ Below w.heap.size w w' := by
  have u_w_train : -9223372036854775808 ≤ train ∧ train ≤ 9223372036854775807 := by simpa [Lit.wf, IntKind.min, IntKind.max, IntKind.signed, IntKind.bits] using w_train
  obtain ⟨a, rfl, u_w_a⟩ := u32_nat w_a
  obtain ⟨b, rfl, u_w_b⟩ := u32_nat w_b
  obtain ⟨c', rfl, u_w_c_⟩ := u32_nat w_c_
  obtain ⟨d', rfl, u_w_d_⟩ := u32_nat w_d_
  exact shakeKeeps_at base train a b c' d' A n c xs w hbase u_w_train.1 u_w_train.2 u_w_a u_w_b u_w_c_ u_w_d_ hin
end Go.Proofs.Ytekcnmimfhiblaa
