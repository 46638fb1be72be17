/-
  place: positions as cells, compared.
-/
import Derived.Test.YtfchmjldhefmkaaTpEq

import Derived.Test.YtfchmjldhefmkaaPlPure

namespace Go.Proofs.Ytfchmjldhefmkaa

open Go.RowKit

open Go.Great

def psA (p : Ps3) : Array Value := #[.int .i64 p.edge, .int .i64 p.at_, .bool p.rev]
theorem plain_ps14 : Try.prog.eqGuardType Try.prog.depth 29 = false := by kernel_rfl
set_option maxRecDepth 100000 in
set_option maxHeartbeats 2000000 in
theorem eq_ps14 (a b : Ps3) (W : World) : (Op.equalIn 10000 29 (.agg (psA a)) (.agg (psA b))).run Try.prog W = .ok (eqP a b) W := by
  rw [show (10000 : Nat) = 9999 + 1 from rfl, run_equalIn_struct W 9999 29 _ _ (by kernel_rfl) (by kernel_rfl)]
  simp only [Program.fieldsOf, Try.underlying29]
  unfold eqP psA
  by_cases h0 : a.edge = b.edge
  rotate_left
  · refine (run_eqNo13 W 9999 (psA a) (psA b) _ _ (.int .i64 a.edge) (.int .i64 b.edge) (by decide) (run_part1_11 W 3 (psA a) 0 (.int .i64 a.edge) (by kernel_rfl) rfl) (run_part1_11 W 3 (psA b) 0 (.int .i64 b.edge) (by kernel_rfl) rfl) (by rw [show (9999 : Nat) = 9998 + 1 from rfl, run_equalIn_int W 9998 3 .i64 .i64 _ _ Try.underlying3]; simp [h0])).trans ?_
    have e : (a.edge == b.edge) = false := by simp [h0]
    simp [e]
  refine (run_eqField11 W 9999 (psA a) (psA b) _ _ (.int .i64 a.edge) (.int .i64 b.edge) (by decide) (run_part1_11 W 3 (psA a) 0 (.int .i64 a.edge) (by kernel_rfl) rfl) (run_part1_11 W 3 (psA b) 0 (.int .i64 b.edge) (by kernel_rfl) rfl) (by rw [show (9999 : Nat) = 9998 + 1 from rfl, run_equalIn_int W 9998 3 .i64 .i64 _ _ Try.underlying3]; simp [h0])).trans ?_
  by_cases h1 : a.at_ = b.at_
  rotate_left
  · refine (run_eqNo13 W 9999 (psA a) (psA b) _ _ (.int .i64 a.at_) (.int .i64 b.at_) (by decide) (run_part1_11 W 3 (psA a) 1 (.int .i64 a.at_) (by kernel_rfl) rfl) (run_part1_11 W 3 (psA b) 1 (.int .i64 b.at_) (by kernel_rfl) rfl) (by rw [show (9999 : Nat) = 9998 + 1 from rfl, run_equalIn_int W 9998 3 .i64 .i64 _ _ Try.underlying3]; simp [h1])).trans ?_
    have e : (a.at_ == b.at_) = false := by simp [h1]
    simp [e]
  refine (run_eqField11 W 9999 (psA a) (psA b) _ _ (.int .i64 a.at_) (.int .i64 b.at_) (by decide) (run_part1_11 W 3 (psA a) 1 (.int .i64 a.at_) (by kernel_rfl) rfl) (run_part1_11 W 3 (psA b) 1 (.int .i64 b.at_) (by kernel_rfl) rfl) (by rw [show (9999 : Nat) = 9998 + 1 from rfl, run_equalIn_int W 9998 3 .i64 .i64 _ _ Try.underlying3]; simp [h1])).trans ?_
  by_cases h2 : a.rev = b.rev
  rotate_left
  · refine (run_eqNo13 W 9999 (psA a) (psA b) _ _ (.bool a.rev) (.bool b.rev) (by decide) (run_part1_11 W 4 (psA a) 2 (.bool a.rev) (by kernel_rfl) rfl) (run_part1_11 W 4 (psA b) 2 (.bool b.rev) (by kernel_rfl) rfl) (by rw [show (9999 : Nat) = 9998 + 1 from rfl, run_equalIn_bool' W 9998 4 _ _ Try.underlying4]; simp [h2])).trans ?_
    have e : (a.rev == b.rev) = false := by simp [h2]
    simp [e]
  refine (run_eqField11 W 9999 (psA a) (psA b) _ _ (.bool a.rev) (.bool b.rev) (by decide) (run_part1_11 W 4 (psA a) 2 (.bool a.rev) (by kernel_rfl) rfl) (run_part1_11 W 4 (psA b) 2 (.bool b.rev) (by kernel_rfl) rfl) (by rw [show (9999 : Nat) = 9998 + 1 from rfl, run_equalIn_bool' W 9998 4 _ _ Try.underlying4]; simp [h2])).trans ?_
  refine (run_eqDone11 W 9999 _ _).trans ?_
  simp [h0, h1, h2]
theorem eql_ps14 (a b : Ps3) (W : World) : (binOp .eql 29 (.agg (psA a)) (.agg (psA b))).run Try.prog W = .ok (.bool (eqP a b)) W := by
  rw [run_eql_struct, eq_ps14]; rfl
theorem neq_ps14 (a b : Ps3) (W : World) : (binOp .neq 29 (.agg (psA a)) (.agg (psA b))).run Try.prog W = .ok (.bool (!eqP a b)) W := by
  rw [run_neq_struct, eq_ps14]; rfl
end Go.Proofs.Ytfchmjldhefmkaa
