/-
  Two keys compared; two ends compared.
-/
import Derived.Test.YtekcnmimfhiblaaShRef
import Derived.Test.YtekcnmimfhiblaaArrEq
import Derived.BigFrame
namespace Go.Proofs.Ytekcnmimfhiblaa
open Go.RowKit

theorem key_words9 (k : Key4) : keyA k = wordsA .u32 [k.a, k.b, k.c, k.d] := rfl
def keyL9 (k : Key4) : List Nat := [k.a, k.b, k.c, k.d]
theorem keyL9_inj (k q : Key4) : keyL9 k = keyL9 q ↔ k = q := by
  obtain ⟨a, b, c, d⟩ := k
  obtain ⟨a', b', c', d'⟩ := q
  simp [keyL9]
theorem eq_keys_at9 (n : Nat) (k q : Key4) (W : World) : (Op.equalIn (n + 1 + 1) 24 (.agg (keyA k)) (.agg (keyA q))).run Try.prog W = .ok (decide (keyL9 k = keyL9 q)) W := by
  rw [key_words9, key_words9]
  exact run_equalIn_words W (n + 1) 24 22 4 .u32 Try.underlying24 (fun a b => run_equalIn_int W n 22 .u32 .u32 a b Try.underlying22) (by kernel_rfl) (by kernel_rfl) (keyL9 k) (keyL9 q) rfl rfl
theorem eq_keys9 (k q : Key4) (W : World) : (Op.equalIn 10000 24 (.agg (keyA k)) (.agg (keyA q))).run Try.prog W = .ok (decide (keyL9 k = keyL9 q)) W := eq_keys_at9 9998 k q W

theorem wpList_aggCmp9 {P : Program} {ops : Array Oper} {rest : List Oper} {o : Oper} {a : Act} {w : World} {Q : Exit → Act → World → Prop} (op : BinOp) (t ty : TypeId) (x y : Operand) (ho : o.op = .binOp op t x y ty) (hw : Region.wanted o (yielded ops a.tmps) = true)
    (xs ys : Array Value) (hx : a.eval x = .agg xs) (hy : a.eval y = .agg ys) (hm : P.eqGuardType P.depth t = false) (v : Value) (hr : (binOp op t (.agg xs) (.agg ys)).run P w = .ok v w)
    (h : wpList P ops Q rest (a.put o.dst v) w) : wpList P ops Q (o :: rest) a w := by
  refine Go.BigFrame.wpList_want hw fun K hK => ?_
  unfold Oper.wp execOp
  simp only [ho, hx, hy, Sem.run_bind, run_eqGuard_agg w op t x y xs ys hm, Result.andThen_ok, hr, Sem.run_pure]
  exact hK _ _ h
/-- A load of a whole struct, whose guard is decided: it comes up. -/
theorem wpList_load_rowW9 {P : Program} {ops : Array Oper} {rest : List Oper} {o : Oper} {a : Act} {w : World} {Q : Exit → Act → World → Prop} (ty : TypeId) (x : Operand) (ho : o.op = .load ty x) (hw : Region.wanted o (yielded ops a.tmps) = true)
    (g : Nat) (hx : a.eval x = .pointer (some ⟨g, 0, none⟩)) (t : TypeId) (cs : Array Value) (fr : Nat × Nat) (d : TypeDesc) (hg : w.heap[g]? = some (.cells cs t fr))
    (hu : P.underlying ty = some d) (hd : (match d with | .struct _ | .array _ _ => true | _ => false) = true) (hi : (P.info? ty).map (·.size) = some cs.size)
    (h : wpList P ops Q rest (a.put o.dst (.agg cs)) w) : wpList P ops Q (o :: rest) a w :=
  Go.BigFrame.wpList_want hw fun _ hK => wp_load_row ty x ho g hx t cs fr d hg hu hd hi (hK _ _ h)
theorem key_plain9 : Try.prog.eqGuardType Try.prog.depth 24 = false := by kernel_rfl
theorem peer_plain9 : Try.prog.eqGuardType Try.prog.depth 26 = false := by kernel_rfl
theorem neq_key9 (k : Key4) (W : World) : (binOp .neq 24 (.agg (keyA k)) (.agg (keyA k))).run Try.prog W = .ok (.bool false) W := by
  rw [run_neq_struct, eq_keys9, decide_eq_true rfl]; rfl
theorem eql_key9 (k : Key4) (W : World) : (binOp .eql 24 (.agg (keyA k)) (.agg (keyA k))).run Try.prog W = .ok (.bool true) W := by
  rw [run_eql_struct, eq_keys9, decide_eq_true rfl]; rfl
theorem run_eqField {P : Program} (w : World) (d : Nat) (xs ys : Array Value) (f : Field) (fs : List Field) (a b : Value) (hn : f.name ≠ "_") (ha : (part f.type xs f.offset).run P w = .ok a w) (hb : (part f.type ys f.offset).run P w = .ok b w) (he : (Op.equalIn d f.type a b).run P w = .ok true w) :
    (Op.eqFields d xs ys (f :: fs)).run P w = (Op.eqFields d xs ys fs).run P w := by
  simp [Op.eqFields, hn, ha, hb, he]
theorem run_eqDone {P : Program} (w : World) (d : Nat) (xs ys : Array Value) : (Op.eqFields d xs ys []).run P w = .ok true w := by simp [Op.eqFields]
theorem run_part1 {P : Program} (w : World) (t : TypeId) (xs : Array Value) (i : Nat) (v : Value) (hagg : (isAgg t).run P w = .ok false w) (hv : xs[i]? = some v) : (part t xs i).run P w = .ok v w := by
  simp [part, hagg, hv]
theorem run_part4 {P : Program} (w : World) (t : TypeId) (xs : Array Value) (i : Nat) (hagg : (isAgg t).run P w = .ok true w) (hsz : (sizeOf t).run P w = .ok 4 w) : (part t xs i).run P w = .ok (.agg (xs.extract i (i + 4))) w := by
  simp [part, hagg, hsz]
set_option maxRecDepth 100000 in
set_option maxHeartbeats 2000000 in
/-- An end is as itself. -/
theorem eq_peer9 (p : Peer) (W : World) : (Op.equalIn 10000 26 (.agg (prA p)) (.agg (prA p))).run Try.prog W = .ok true W := by
  rw [show (10000 : Nat) = 9999 + 1 from rfl, run_equalIn_struct W 9999 26 _ _ (by kernel_rfl) (by kernel_rfl)]
  simp only [Program.fieldsOf, Try.underlying26]
  refine (run_eqField W 9999 (prA p) (prA p) _ _ (.int .i64 p.side) (.int .i64 p.side) (by decide) (run_part1 W 3 (prA p) 0 (.int .i64 p.side) (by kernel_rfl) rfl) (run_part1 W 3 (prA p) 0 (.int .i64 p.side) (by kernel_rfl) rfl) (by rw [show (9999 : Nat) = 9998 + 1 from rfl, run_equalIn_int W 9998 3 .i64 .i64 _ _ Try.underlying3]; simp)).trans ?_
  refine (run_eqField W 9999 (prA p) (prA p) _ _ (.int .i64 p.train) (.int .i64 p.train) (by decide) (run_part1 W 3 (prA p) 1 (.int .i64 p.train) (by kernel_rfl) rfl) (run_part1 W 3 (prA p) 1 (.int .i64 p.train) (by kernel_rfl) rfl) (by rw [show (9999 : Nat) = 9998 + 1 from rfl, run_equalIn_int W 9998 3 .i64 .i64 _ _ Try.underlying3]; simp)).trans ?_
  refine (run_eqField W 9999 (prA p) (prA p) _ _ (.agg (keyA p.base)) (.agg (keyA p.base)) (by decide) ((run_part4 W 24 (prA p) 2 (by kernel_rfl) (by kernel_rfl)).trans (show _ = Result.ok (Value.agg (keyA p.base)) W from by kernel_rfl)) ((run_part4 W 24 (prA p) 2 (by kernel_rfl) (by kernel_rfl)).trans (show _ = Result.ok (Value.agg (keyA p.base)) W from by kernel_rfl)) (by rw [show (9999 : Nat) = 9997 + 1 + 1 from rfl, eq_keys_at9 9997 p.base p.base W, decide_eq_true rfl])).trans ?_
  refine (run_eqField W 9999 (prA p) (prA p) _ _ (.int .i64 p.state) (.int .i64 p.state) (by decide) (run_part1 W 3 (prA p) 6 (.int .i64 p.state) (by kernel_rfl) rfl) (run_part1 W 3 (prA p) 6 (.int .i64 p.state) (by kernel_rfl) rfl) (by rw [show (9999 : Nat) = 9998 + 1 from rfl, run_equalIn_int W 9998 3 .i64 .i64 _ _ Try.underlying3]; simp)).trans ?_
  refine (run_eqField W 9999 (prA p) (prA p) _ _ (.int .u32 (p.a : Nat)) (.int .u32 (p.a : Nat)) (by decide) (run_part1 W 22 (prA p) 7 (.int .u32 (p.a : Nat)) (by kernel_rfl) rfl) (run_part1 W 22 (prA p) 7 (.int .u32 (p.a : Nat)) (by kernel_rfl) rfl) (by rw [show (9999 : Nat) = 9998 + 1 from rfl, run_equalIn_int W 9998 22 .u32 .u32 _ _ Try.underlying22]; simp)).trans ?_
  refine (run_eqField W 9999 (prA p) (prA p) _ _ (.int .u32 (p.b : Nat)) (.int .u32 (p.b : Nat)) (by decide) (run_part1 W 22 (prA p) 8 (.int .u32 (p.b : Nat)) (by kernel_rfl) rfl) (run_part1 W 22 (prA p) 8 (.int .u32 (p.b : Nat)) (by kernel_rfl) rfl) (by rw [show (9999 : Nat) = 9998 + 1 from rfl, run_equalIn_int W 9998 22 .u32 .u32 _ _ Try.underlying22]; simp)).trans ?_
  refine (run_eqField W 9999 (prA p) (prA p) _ _ (.agg (keyA p.key)) (.agg (keyA p.key)) (by decide) ((run_part4 W 24 (prA p) 9 (by kernel_rfl) (by kernel_rfl)).trans (show _ = Result.ok (Value.agg (keyA p.key)) W from by kernel_rfl)) ((run_part4 W 24 (prA p) 9 (by kernel_rfl) (by kernel_rfl)).trans (show _ = Result.ok (Value.agg (keyA p.key)) W from by kernel_rfl)) (by rw [show (9999 : Nat) = 9997 + 1 + 1 from rfl, eq_keys_at9 9997 p.key p.key W, decide_eq_true rfl])).trans ?_
  refine (run_eqField W 9999 (prA p) (prA p) _ _ (.bool p.half) (.bool p.half) (by decide) (run_part1 W 4 (prA p) 13 (.bool p.half) (by kernel_rfl) rfl) (run_part1 W 4 (prA p) 13 (.bool p.half) (by kernel_rfl) rfl) (by rw [show (9999 : Nat) = 9998 + 1 from rfl, run_equalIn_bool' W 9998 4 _ _ Try.underlying4]; simp)).trans ?_
  refine (run_eqField W 9999 (prA p) (prA p) _ _ (.int .u32 (p.a2 : Nat)) (.int .u32 (p.a2 : Nat)) (by decide) (run_part1 W 22 (prA p) 14 (.int .u32 (p.a2 : Nat)) (by kernel_rfl) rfl) (run_part1 W 22 (prA p) 14 (.int .u32 (p.a2 : Nat)) (by kernel_rfl) rfl) (by rw [show (9999 : Nat) = 9998 + 1 from rfl, run_equalIn_int W 9998 22 .u32 .u32 _ _ Try.underlying22]; simp)).trans ?_
  refine (run_eqField W 9999 (prA p) (prA p) _ _ (.int .u32 (p.b2 : Nat)) (.int .u32 (p.b2 : Nat)) (by decide) (run_part1 W 22 (prA p) 15 (.int .u32 (p.b2 : Nat)) (by kernel_rfl) rfl) (run_part1 W 22 (prA p) 15 (.int .u32 (p.b2 : Nat)) (by kernel_rfl) rfl) (by rw [show (9999 : Nat) = 9998 + 1 from rfl, run_equalIn_int W 9998 22 .u32 .u32 _ _ Try.underlying22]; simp)).trans ?_
  exact run_eqDone W 9999 _ _
theorem eql_peer9 (p : Peer) (W : World) : (binOp .eql 26 (.agg (prA p)) (.agg (prA p))).run Try.prog W = .ok (.bool true) W := by
  rw [run_eql_struct, eq_peer9]; rfl
end Go.Proofs.Ytekcnmimfhiblaa
