/-
  topo: ends, steps and balise groups compared.
-/
import Derived.Test.YteioefgckigbcaaTpMem

namespace Go.Proofs.Yteioefgckigbcaa

open Go.RowKit

open Go.Great

theorem run_eqNo13 {P : Program} (w : World) (d : Nat) (xs ys : Array Value) (f : Field) (fs : List Field) (a b : Value) (hn : f.name ≠ "_") (ha : (part f.type xs f.offset).run P w = .ok a w) (hb : (part f.type ys f.offset).run P w = .ok b w) (he : (Op.equalIn d f.type a b).run P w = .ok false w) :
    (Op.eqFields d xs ys (f :: fs)).run P w = .ok false w := by
  simp [Op.eqFields, hn, ha, hb, he]
def endA (a : Int × Int) : Array Value := #[.int .i64 a.1, .int .i64 a.2]
def stA13 (s : St3) : Array Value := #[.int .i64 s.edge, .bool s.rev]
def blA (b : Bl3) : Array Value := #[.int .i64 b.id, .int .i64 b.edge, .int .i64 b.at_]
def eqB (a b : Bl3) : Bool := (a.id == b.id) && ((a.edge == b.edge) && (a.at_ == b.at_))
theorem plain_end13 : Try.prog.eqGuardType Try.prog.depth 69 = false := by kernel_rfl
set_option maxRecDepth 100000 in
set_option maxHeartbeats 2000000 in
theorem eq_end13 (a b : Int × Int) (W : World) : (Op.equalIn 10000 69 (.agg (endA a)) (.agg (endA b))).run Try.prog W = .ok (eqE a b) W := by
  rw [show (10000 : Nat) = 9999 + 1 from rfl, run_equalIn_struct W 9999 69 _ _ (by kernel_rfl) (by kernel_rfl)]
  simp only [Program.fieldsOf, Try.underlying69]
  unfold eqE endA
  by_cases h0 : a.1 = b.1
  rotate_left
  · refine (run_eqNo13 W 9999 (endA a) (endA b) _ _ (.int .i64 a.1) (.int .i64 b.1) (by decide) (run_part1_11 W 3 (endA a) 0 (.int .i64 a.1) (by kernel_rfl) rfl) (run_part1_11 W 3 (endA b) 0 (.int .i64 b.1) (by kernel_rfl) rfl) (by rw [show (9999 : Nat) = 9998 + 1 from rfl, run_equalIn_int W 9998 3 .i64 .i64 _ _ Try.underlying3]; simp [h0])).trans ?_
    have e : (a.1 == b.1) = false := by simp [h0]
    simp [e]
  refine (run_eqField11 W 9999 (endA a) (endA b) _ _ (.int .i64 a.1) (.int .i64 b.1) (by decide) (run_part1_11 W 3 (endA a) 0 (.int .i64 a.1) (by kernel_rfl) rfl) (run_part1_11 W 3 (endA b) 0 (.int .i64 b.1) (by kernel_rfl) rfl) (by rw [show (9999 : Nat) = 9998 + 1 from rfl, run_equalIn_int W 9998 3 .i64 .i64 _ _ Try.underlying3]; simp [h0])).trans ?_
  by_cases h1 : a.2 = b.2
  rotate_left
  · refine (run_eqNo13 W 9999 (endA a) (endA b) _ _ (.int .i64 a.2) (.int .i64 b.2) (by decide) (run_part1_11 W 3 (endA a) 1 (.int .i64 a.2) (by kernel_rfl) rfl) (run_part1_11 W 3 (endA b) 1 (.int .i64 b.2) (by kernel_rfl) rfl) (by rw [show (9999 : Nat) = 9998 + 1 from rfl, run_equalIn_int W 9998 3 .i64 .i64 _ _ Try.underlying3]; simp [h1])).trans ?_
    have e : (a.2 == b.2) = false := by simp [h1]
    simp [e]
  refine (run_eqField11 W 9999 (endA a) (endA b) _ _ (.int .i64 a.2) (.int .i64 b.2) (by decide) (run_part1_11 W 3 (endA a) 1 (.int .i64 a.2) (by kernel_rfl) rfl) (run_part1_11 W 3 (endA b) 1 (.int .i64 b.2) (by kernel_rfl) rfl) (by rw [show (9999 : Nat) = 9998 + 1 from rfl, run_equalIn_int W 9998 3 .i64 .i64 _ _ Try.underlying3]; simp [h1])).trans ?_
  refine (run_eqDone11 W 9999 _ _).trans ?_
  simp [h0, h1]
theorem eql_end13 (a b : Int × Int) (W : World) : (binOp .eql 69 (.agg (endA a)) (.agg (endA b))).run Try.prog W = .ok (.bool (eqE a b)) W := by
  rw [run_eql_struct, eq_end13]; rfl
theorem neq_end13 (a b : Int × Int) (W : World) : (binOp .neq 69 (.agg (endA a)) (.agg (endA b))).run Try.prog W = .ok (.bool (!eqE a b)) W := by
  rw [run_neq_struct, eq_end13]; rfl
theorem plain_st13 : Try.prog.eqGuardType Try.prog.depth 75 = false := by kernel_rfl
set_option maxRecDepth 100000 in
set_option maxHeartbeats 2000000 in
theorem eq_st13 (a b : St3) (W : World) : (Op.equalIn 10000 75 (.agg (stA13 a)) (.agg (stA13 b))).run Try.prog W = .ok (eqS a b) W := by
  rw [show (10000 : Nat) = 9999 + 1 from rfl, run_equalIn_struct W 9999 75 _ _ (by kernel_rfl) (by kernel_rfl)]
  simp only [Program.fieldsOf, Try.underlying75]
  unfold eqS stA13
  by_cases h0 : a.edge = b.edge
  rotate_left
  · refine (run_eqNo13 W 9999 (stA13 a) (stA13 b) _ _ (.int .i64 a.edge) (.int .i64 b.edge) (by decide) (run_part1_11 W 3 (stA13 a) 0 (.int .i64 a.edge) (by kernel_rfl) rfl) (run_part1_11 W 3 (stA13 b) 0 (.int .i64 b.edge) (by kernel_rfl) rfl) (by rw [show (9999 : Nat) = 9998 + 1 from rfl, run_equalIn_int W 9998 3 .i64 .i64 _ _ Try.underlying3]; simp [h0])).trans ?_
    have e : (a.edge == b.edge) = false := by simp [h0]
    simp [e]
  refine (run_eqField11 W 9999 (stA13 a) (stA13 b) _ _ (.int .i64 a.edge) (.int .i64 b.edge) (by decide) (run_part1_11 W 3 (stA13 a) 0 (.int .i64 a.edge) (by kernel_rfl) rfl) (run_part1_11 W 3 (stA13 b) 0 (.int .i64 b.edge) (by kernel_rfl) rfl) (by rw [show (9999 : Nat) = 9998 + 1 from rfl, run_equalIn_int W 9998 3 .i64 .i64 _ _ Try.underlying3]; simp [h0])).trans ?_
  by_cases h1 : a.rev = b.rev
  rotate_left
  · refine (run_eqNo13 W 9999 (stA13 a) (stA13 b) _ _ (.bool a.rev) (.bool b.rev) (by decide) (run_part1_11 W 4 (stA13 a) 1 (.bool a.rev) (by kernel_rfl) rfl) (run_part1_11 W 4 (stA13 b) 1 (.bool b.rev) (by kernel_rfl) rfl) (by rw [show (9999 : Nat) = 9998 + 1 from rfl, run_equalIn_bool' W 9998 4 _ _ Try.underlying4]; simp [h1])).trans ?_
    have e : (a.rev == b.rev) = false := by simp [h1]
    simp [e]
  refine (run_eqField11 W 9999 (stA13 a) (stA13 b) _ _ (.bool a.rev) (.bool b.rev) (by decide) (run_part1_11 W 4 (stA13 a) 1 (.bool a.rev) (by kernel_rfl) rfl) (run_part1_11 W 4 (stA13 b) 1 (.bool b.rev) (by kernel_rfl) rfl) (by rw [show (9999 : Nat) = 9998 + 1 from rfl, run_equalIn_bool' W 9998 4 _ _ Try.underlying4]; simp [h1])).trans ?_
  refine (run_eqDone11 W 9999 _ _).trans ?_
  simp [h0, h1]
theorem eql_st13 (a b : St3) (W : World) : (binOp .eql 75 (.agg (stA13 a)) (.agg (stA13 b))).run Try.prog W = .ok (.bool (eqS a b)) W := by
  rw [run_eql_struct, eq_st13]; rfl
theorem neq_st13 (a b : St3) (W : World) : (binOp .neq 75 (.agg (stA13 a)) (.agg (stA13 b))).run Try.prog W = .ok (.bool (!eqS a b)) W := by
  rw [run_neq_struct, eq_st13]; rfl
theorem plain_bl13 : Try.prog.eqGuardType Try.prog.depth 73 = false := by kernel_rfl
set_option maxRecDepth 100000 in
set_option maxHeartbeats 2000000 in
theorem eq_bl13 (a b : Bl3) (W : World) : (Op.equalIn 10000 73 (.agg (blA a)) (.agg (blA b))).run Try.prog W = .ok (eqB a b) W := by
  rw [show (10000 : Nat) = 9999 + 1 from rfl, run_equalIn_struct W 9999 73 _ _ (by kernel_rfl) (by kernel_rfl)]
  simp only [Program.fieldsOf, Try.underlying73]
  unfold eqB blA
  by_cases h0 : a.id = b.id
  rotate_left
  · refine (run_eqNo13 W 9999 (blA a) (blA b) _ _ (.int .i64 a.id) (.int .i64 b.id) (by decide) (run_part1_11 W 3 (blA a) 0 (.int .i64 a.id) (by kernel_rfl) rfl) (run_part1_11 W 3 (blA b) 0 (.int .i64 b.id) (by kernel_rfl) rfl) (by rw [show (9999 : Nat) = 9998 + 1 from rfl, run_equalIn_int W 9998 3 .i64 .i64 _ _ Try.underlying3]; simp [h0])).trans ?_
    have e : (a.id == b.id) = false := by simp [h0]
    simp [e]
  refine (run_eqField11 W 9999 (blA a) (blA b) _ _ (.int .i64 a.id) (.int .i64 b.id) (by decide) (run_part1_11 W 3 (blA a) 0 (.int .i64 a.id) (by kernel_rfl) rfl) (run_part1_11 W 3 (blA b) 0 (.int .i64 b.id) (by kernel_rfl) rfl) (by rw [show (9999 : Nat) = 9998 + 1 from rfl, run_equalIn_int W 9998 3 .i64 .i64 _ _ Try.underlying3]; simp [h0])).trans ?_
  by_cases h1 : a.edge = b.edge
  rotate_left
  · refine (run_eqNo13 W 9999 (blA a) (blA b) _ _ (.int .i64 a.edge) (.int .i64 b.edge) (by decide) (run_part1_11 W 3 (blA a) 1 (.int .i64 a.edge) (by kernel_rfl) rfl) (run_part1_11 W 3 (blA b) 1 (.int .i64 b.edge) (by kernel_rfl) rfl) (by rw [show (9999 : Nat) = 9998 + 1 from rfl, run_equalIn_int W 9998 3 .i64 .i64 _ _ Try.underlying3]; simp [h1])).trans ?_
    have e : (a.edge == b.edge) = false := by simp [h1]
    simp [e]
  refine (run_eqField11 W 9999 (blA a) (blA b) _ _ (.int .i64 a.edge) (.int .i64 b.edge) (by decide) (run_part1_11 W 3 (blA a) 1 (.int .i64 a.edge) (by kernel_rfl) rfl) (run_part1_11 W 3 (blA b) 1 (.int .i64 b.edge) (by kernel_rfl) rfl) (by rw [show (9999 : Nat) = 9998 + 1 from rfl, run_equalIn_int W 9998 3 .i64 .i64 _ _ Try.underlying3]; simp [h1])).trans ?_
  by_cases h2 : a.at_ = b.at_
  rotate_left
  · refine (run_eqNo13 W 9999 (blA a) (blA b) _ _ (.int .i64 a.at_) (.int .i64 b.at_) (by decide) (run_part1_11 W 3 (blA a) 2 (.int .i64 a.at_) (by kernel_rfl) rfl) (run_part1_11 W 3 (blA b) 2 (.int .i64 b.at_) (by kernel_rfl) rfl) (by rw [show (9999 : Nat) = 9998 + 1 from rfl, run_equalIn_int W 9998 3 .i64 .i64 _ _ Try.underlying3]; simp [h2])).trans ?_
    have e : (a.at_ == b.at_) = false := by simp [h2]
    simp [e]
  refine (run_eqField11 W 9999 (blA a) (blA b) _ _ (.int .i64 a.at_) (.int .i64 b.at_) (by decide) (run_part1_11 W 3 (blA a) 2 (.int .i64 a.at_) (by kernel_rfl) rfl) (run_part1_11 W 3 (blA b) 2 (.int .i64 b.at_) (by kernel_rfl) rfl) (by rw [show (9999 : Nat) = 9998 + 1 from rfl, run_equalIn_int W 9998 3 .i64 .i64 _ _ Try.underlying3]; simp [h2])).trans ?_
  refine (run_eqDone11 W 9999 _ _).trans ?_
  simp [h0, h1, h2]
theorem eql_bl13 (a b : Bl3) (W : World) : (binOp .eql 73 (.agg (blA a)) (.agg (blA b))).run Try.prog W = .ok (.bool (eqB a b)) W := by
  rw [run_eql_struct, eq_bl13]; rfl
theorem neq_bl13 (a b : Bl3) (W : World) : (binOp .neq 73 (.agg (blA a)) (.agg (blA b))).run Try.prog W = .ok (.bool (!eqB a b)) W := by
  rw [run_neq_struct, eq_bl13]; rfl
end Go.Proofs.Yteioefgckigbcaa
