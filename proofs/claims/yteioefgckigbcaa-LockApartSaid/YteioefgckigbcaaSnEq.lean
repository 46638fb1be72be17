/-
  span: spans as cells, compared.
-/
import Derived.Test.YteioefgckigbcaaTpEq

import Derived.Test.YteioefgckigbcaaSnTot

import Derived.Test.YteioefgckigbcaaRowK

namespace Go.Proofs.Yteioefgckigbcaa

open Go.RowKit

open Go.Great

def snA (s : Sn3) : Array Value := #[.int .i64 s.edge, .int .i64 s.lo, .int .i64 s.hi]
def snC (s : Sn3) : List Value := [.int .i64 s.edge, .int .i64 s.lo, .int .i64 s.hi]
theorem plain_sn15 : Try.prog.eqGuardType Try.prog.depth 80 = false := by kernel_rfl
set_option maxRecDepth 100000 in
set_option maxHeartbeats 2000000 in
theorem eq_sn15 (a b : Sn3) (W : World) : (Op.equalIn 10000 80 (.agg (snA a)) (.agg (snA b))).run Try.prog W = .ok (eqN a b) W := by
  rw [show (10000 : Nat) = 9999 + 1 from rfl, run_equalIn_struct W 9999 80 _ _ (by kernel_rfl) (by kernel_rfl)]
  simp only [Program.fieldsOf, Try.underlying80]
  unfold eqN snA
  by_cases h0 : a.edge = b.edge
  rotate_left
  · refine (run_eqNo13 W 9999 (snA a) (snA b) _ _ (.int .i64 a.edge) (.int .i64 b.edge) (by decide) (run_part1_11 W 3 (snA a) 0 (.int .i64 a.edge) (by kernel_rfl) rfl) (run_part1_11 W 3 (snA b) 0 (.int .i64 b.edge) (by kernel_rfl) rfl) (by rw [show (9999 : Nat) = 9998 + 1 from rfl, run_equalIn_int W 9998 3 .i64 .i64 _ _ Try.underlying3]; simp [h0])).trans ?_
    have e : (a.edge == b.edge) = false := by simp [h0]
    simp [e]
  refine (run_eqField11 W 9999 (snA a) (snA b) _ _ (.int .i64 a.edge) (.int .i64 b.edge) (by decide) (run_part1_11 W 3 (snA a) 0 (.int .i64 a.edge) (by kernel_rfl) rfl) (run_part1_11 W 3 (snA b) 0 (.int .i64 b.edge) (by kernel_rfl) rfl) (by rw [show (9999 : Nat) = 9998 + 1 from rfl, run_equalIn_int W 9998 3 .i64 .i64 _ _ Try.underlying3]; simp [h0])).trans ?_
  by_cases h1 : a.lo = b.lo
  rotate_left
  · refine (run_eqNo13 W 9999 (snA a) (snA b) _ _ (.int .i64 a.lo) (.int .i64 b.lo) (by decide) (run_part1_11 W 3 (snA a) 1 (.int .i64 a.lo) (by kernel_rfl) rfl) (run_part1_11 W 3 (snA b) 1 (.int .i64 b.lo) (by kernel_rfl) rfl) (by rw [show (9999 : Nat) = 9998 + 1 from rfl, run_equalIn_int W 9998 3 .i64 .i64 _ _ Try.underlying3]; simp [h1])).trans ?_
    have e : (a.lo == b.lo) = false := by simp [h1]
    simp [e]
  refine (run_eqField11 W 9999 (snA a) (snA b) _ _ (.int .i64 a.lo) (.int .i64 b.lo) (by decide) (run_part1_11 W 3 (snA a) 1 (.int .i64 a.lo) (by kernel_rfl) rfl) (run_part1_11 W 3 (snA b) 1 (.int .i64 b.lo) (by kernel_rfl) rfl) (by rw [show (9999 : Nat) = 9998 + 1 from rfl, run_equalIn_int W 9998 3 .i64 .i64 _ _ Try.underlying3]; simp [h1])).trans ?_
  by_cases h2 : a.hi = b.hi
  rotate_left
  · refine (run_eqNo13 W 9999 (snA a) (snA b) _ _ (.int .i64 a.hi) (.int .i64 b.hi) (by decide) (run_part1_11 W 3 (snA a) 2 (.int .i64 a.hi) (by kernel_rfl) rfl) (run_part1_11 W 3 (snA b) 2 (.int .i64 b.hi) (by kernel_rfl) rfl) (by rw [show (9999 : Nat) = 9998 + 1 from rfl, run_equalIn_int W 9998 3 .i64 .i64 _ _ Try.underlying3]; simp [h2])).trans ?_
    have e : (a.hi == b.hi) = false := by simp [h2]
    simp [e]
  refine (run_eqField11 W 9999 (snA a) (snA b) _ _ (.int .i64 a.hi) (.int .i64 b.hi) (by decide) (run_part1_11 W 3 (snA a) 2 (.int .i64 a.hi) (by kernel_rfl) rfl) (run_part1_11 W 3 (snA b) 2 (.int .i64 b.hi) (by kernel_rfl) rfl) (by rw [show (9999 : Nat) = 9998 + 1 from rfl, run_equalIn_int W 9998 3 .i64 .i64 _ _ Try.underlying3]; simp [h2])).trans ?_
  refine (run_eqDone11 W 9999 _ _).trans ?_
  simp [h0, h1, h2]
theorem eql_sn15 (a b : Sn3) (W : World) : (binOp .eql 80 (.agg (snA a)) (.agg (snA b))).run Try.prog W = .ok (.bool (eqN a b)) W := by
  rw [run_eql_struct, eq_sn15]; rfl
theorem neq_sn15 (a b : Sn3) (W : World) : (binOp .neq 80 (.agg (snA a)) (.agg (snA b))).run Try.prog W = .ok (.bool (!eqN a b)) W := by
  rw [run_neq_struct, eq_sn15]; rfl
theorem info_int15 : (Try.prog.info? 3).map (fun i => (i.zero, i.size, i.bytes)) = some (some (.int .i64 0), 1, 8) := by kernel_rfl
theorem info_span15 : (Try.prog.info? 80).map (fun i => (i.zero, i.size, i.bytes)) = some (some (.agg #[.int .i64 0, .int .i64 0, .int .i64 0]), 3, 24) := by kernel_rfl
theorem one_in15 (x : Int) : ∀ u ∈ inC x, u.oneCell' = true := by
  intro u hu
  simp only [inC, List.mem_cons, List.not_mem_nil, or_false] at hu
  subst hu
  rfl
theorem one_sn15 (s : Sn3) : ∀ u ∈ snC s, u.oneCell' = true := by
  intro u hu
  simp only [snC, List.mem_cons, List.not_mem_nil, or_false] at hu
  rcases hu with rfl | rfl | rfl <;> rfl
theorem SlO.span {w : World} {A : Option Addr} {n c : Nat} {l : List Sn3} (h : SlO snC 3 w A n c l) {j : Nat} {x : Sn3} (hx : l[j]? = some x) :
    ∃ b off, A = some ⟨b, off, none⟩ ∧ w.cell? ⟨b, off + j * 3, none⟩ = some (.int .i64 x.edge) ∧ w.cell? ⟨b, off + j * 3 + 1, none⟩ = some (.int .i64 x.lo) ∧ w.cell? ⟨b, off + j * 3 + 2, none⟩ = some (.int .i64 x.hi) := by
  obtain ⟨b, off, e, hc⟩ := h.at_ (fun _ => rfl) (by decide) hx
  exact ⟨b, off, e, hc 0 _ rfl, hc 1 _ rfl, hc 2 _ rfl⟩
theorem SlO.num {w : World} {A : Option Addr} {n c : Nat} {l : List Int} (h : SlO inC 1 w A n c l) {j : Nat} {x : Int} (hx : l[j]? = some x) :
    ∃ b off, A = some ⟨b, off, none⟩ ∧ w.cell? ⟨b, off + j, none⟩ = some (.int .i64 x) := by
  obtain ⟨b, off, e, hc⟩ := h.at_ (fun _ => rfl) (by decide) hx
  refine ⟨b, off, e, ?_⟩
  have h0 := hc 0 _ rfl
  simpa using h0
end Go.Proofs.Yteioefgckigbcaa
