/-
  Package math's own text: Abs, Copysign, Trunc, Modf, Floor, Ceil, IsInf, IsNaN of doubles.
-/
import Derived.Test.YtidokfbjfdkfdaaFlWord
import Derived.Test.YtidokfbjfdkfdaaOdoRef
import Derived.WalkLawsBesides
namespace Go.Proofs.Ytidokfbjfdkfdaa
open Go.RowKit Fl
open Ieee (double)
attribute [local irreducible] N E mval top U

theorem run_f64bits (x : Nat) (w : World) : (callFunc 64 #[.float .f64 x]).run Try.prog w = .ok (.value (.int .u64 x)) w := by
  rw [run_callFunc_extern Try.func64 (by kernel_rfl) (by kernel_rfl) (by kernel_rfl) (e := Go.Extern.MathFloatBits.float64bits) (by kernel_rfl)]
  rfl
theorem run_f64from (x : Nat) (w : World) : (callFunc 63 #[.int .u64 x]).run Try.prog w = .ok (.value (.float .f64 x)) w := by
  rw [run_callFunc_extern Try.func63 (by kernel_rfl) (by kernel_rfl) (by kernel_rfl) (e := Go.Extern.MathFloatBits.float64frombits) (by kernel_rfl)]
  rfl

theorem isnan_any (x : Nat) (hw : (Lit.float .f64 x).wf = true) (w : World) :
    Calls Try.prog 26 #[.float .f64 x] w fun e w' => e = .returned (.bool (nanB x)) ∧ w = w' := by
  have h := ne_self x hw
  go_enter Try.func26, Try.ntmps26
  go_wp2
  go_ret
  exact ⟨by rw [← h]; rfl, rfl⟩

set_option maxHeartbeats 1000000 in
theorem abs_any (x : Nat) (hx : x < 18446744073709551616) (w : World) :
    Calls Try.prog 50 #[.float .f64 x] w fun e w' => e = .returned (.float .f64 (rung x)) ∧ w = w' := by
  have h1 : ∀ w, (callFunc 64 #[.float .f64 x]).run Try.prog w = .ok (.value (.int .u64 x)) w := run_f64bits x
  have h2 : ∀ w, (callFunc 63 #[.int .u64 (rung x)]).run Try.prog w = .ok (.value (.float .f64 (rung x))) w := run_f64from (rung x)
  have h3 := clear63 hx
  go_enter Try.func50, Try.ntmps50
  go_wp2
  go_ret
  exact ⟨rfl, rfl⟩

set_option maxHeartbeats 1000000 in
theorem copysign_any (x y : Nat) (hx : x < 18446744073709551616) (hy : y < 18446744073709551616) (w : World) :
    Calls Try.prog 66 #[.float .f64 x, .float .f64 y] w fun e w' => e = .returned (.float .f64 (wordOf (neg y) (rung x))) ∧ w = w' := by
  have h1 : ∀ w, (callFunc 64 #[.float .f64 x]).run Try.prog w = .ok (.value (.int .u64 x)) w := run_f64bits x
  have h1' : ∀ w, (callFunc 64 #[.float .f64 y]).run Try.prog w = .ok (.value (.int .u64 y)) w := run_f64bits y
  have h2 : ∀ w, (callFunc 63 #[.int .u64 (wordOf (neg y) (rung x))]).run Try.prog w = .ok (.value (.float .f64 (wordOf (neg y) (rung x)))) w := run_f64from _
  have h3 := clear63 hx
  have h4 := sign63 hy
  have h5 := join63 (neg y) (rung_lt x)
  generalize (if neg y then 9223372036854775808 else 0 : Nat) = q at h4 h5
  go_enter Try.func66, Try.ntmps66
  go_wp2
  go_ret
  exact ⟨rfl, rfl⟩
end Go.Proofs.Ytidokfbjfdkfdaa
