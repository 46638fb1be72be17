/-
  stamps compared.
-/
import Derived.Test.YtjfndnpjcicogaaLawAwake11
namespace Go.Proofs.Ytjfndnpjcicogaa
open Go.RowKit
open Go.Great

theorem st_plain11 : Try.prog.eqGuardType Try.prog.depth 23 = false := by kernel_rfl
set_option maxRecDepth 100000 in
set_option maxHeartbeats 2000000 in
theorem eq_st11 (s : Stp) (W : World) : (Op.equalIn 10000 23 (.agg (stA s)) (.agg (stA s))).run Try.prog W = .ok true W := by
  rw [show (10000 : Nat) = 9999 + 1 from rfl, run_equalIn_struct W 9999 23 _ _ (by kernel_rfl) (by kernel_rfl)]
  simp only [Program.fieldsOf, Try.underlying23]
  refine (run_eqField11 W 9999 (stA s) (stA s) _ _ (.int .i64 s.last) (.int .i64 s.last) (by decide) (run_part1_11 W 3 (stA s) 0 (.int .i64 s.last) (by kernel_rfl) rfl) (run_part1_11 W 3 (stA s) 0 (.int .i64 s.last) (by kernel_rfl) rfl) (by rw [show (9999 : Nat) = 9998 + 1 from rfl, run_equalIn_int W 9998 3 .i64 .i64 _ _ Try.underlying3]; simp)).trans ?_
  refine (run_eqField11 W 9999 (stA s) (stA s) _ _ (.int .i64 s.ahead) (.int .i64 s.ahead) (by decide) (run_part1_11 W 3 (stA s) 1 (.int .i64 s.ahead) (by kernel_rfl) rfl) (run_part1_11 W 3 (stA s) 1 (.int .i64 s.ahead) (by kernel_rfl) rfl) (by rw [show (9999 : Nat) = 9998 + 1 from rfl, run_equalIn_int W 9998 3 .i64 .i64 _ _ Try.underlying3]; simp)).trans ?_
  refine (run_eqField11 W 9999 (stA s) (stA s) _ _ (.int .i64 s.behind) (.int .i64 s.behind) (by decide) (run_part1_11 W 3 (stA s) 2 (.int .i64 s.behind) (by kernel_rfl) rfl) (run_part1_11 W 3 (stA s) 2 (.int .i64 s.behind) (by kernel_rfl) rfl) (by rw [show (9999 : Nat) = 9998 + 1 from rfl, run_equalIn_int W 9998 3 .i64 .i64 _ _ Try.underlying3]; simp)).trans ?_
  refine (run_eqField11 W 9999 (stA s) (stA s) _ _ (.bool s.free) (.bool s.free) (by decide) (run_part1_11 W 4 (stA s) 3 (.bool s.free) (by kernel_rfl) rfl) (run_part1_11 W 4 (stA s) 3 (.bool s.free) (by kernel_rfl) rfl) (by rw [show (9999 : Nat) = 9998 + 1 from rfl, run_equalIn_bool' W 9998 4 _ _ Try.underlying4]; simp)).trans ?_
  exact run_eqDone11 W 9999 _ _
theorem eql_st11 (s : Stp) (W : World) : (binOp .eql 23 (.agg (stA s)) (.agg (stA s))).run Try.prog W = .ok (.bool true) W := by
  rw [run_eql_struct, eq_st11]; rfl
end Go.Proofs.Ytjfndnpjcicogaa
