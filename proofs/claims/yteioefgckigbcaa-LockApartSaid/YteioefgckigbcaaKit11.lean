/-
  Small words of our own for structs that lie in blocks of their own: no function of the program is named here.
-/
import Derived.Test.YteioefgckigbcaaMem

import Derived.Deep.RegionHeld3

import Derived.Laws.ResultCell

import Derived.Laws.StructEq

import Derived.ChangeKeysEq

import Derived.BigFrame

import Derived.Deep.DeepCutAuto

import Derived.Great.BuildSlice

namespace Go.Proofs.Yteioefgckigbcaa

open Go.RowKit

theorem has_at11 {W0 : World} {g : Nat} {t : TypeId} {cs : Array Value} (hg : W0.heap.size = g) : Has (W0.alloc (.cells cs t)) g t cs := by
  subst hg
  exact Has.made _ _ _
theorem has_row11 {w : World} {g : Nat} {t : TypeId} {old : Array Value} (h : Has w g t old) (cs : Array Value) : Has (w.setRow g cs) g t cs := by
  unfold Has at h ⊢
  simp [World.setRow, Array.getElem?_modify, h]
theorem has_rowo11 {w : World} {g k : Nat} {t : TypeId} {old : Array Value} (h : Has w k t old) (hne : k ≠ g) (cs : Array Value) : Has (w.setRow g cs) k t old := by
  unfold Has at h ⊢
  rw [setRow_other w g k cs hne]; exact h
theorem below_al11 {w W : World} (h : Below w.heap.size w W) (o : Obj) : Below w.heap.size w (W.alloc o) := h.alloc h.size o
theorem below_dr11 {B : Nat} {a w : World} (h : Below B a w) : Below B a w.drew := ⟨h.os, h.tape, h.output, h.size, h.block⟩
theorem Has.raw11 {w : World} {g : Nat} {t : TypeId} {cs : Array Value} (h : Has w g t cs) : w.heap[g]? = some (.cells cs t (0, 0)) := h
theorem Has.is11 {w : World} {g : Nat} {t : TypeId} {cs cs' : Array Value} (h : Has w g t cs) (e : cs = cs') : Has w g t cs' := e ▸ h
theorem add_block11 (a : Addr) (j : Nat) : (a.add j).block = a.block := by unfold Addr.add; split <;> rfl
theorem bool_dec11 {x : Bool} {p : Prop} [Decidable p] (h : x = true ↔ p) : x = decide p := by
  by_cases hp : p
  · rw [decide_eq_true hp]; exact h.2 hp
  · rw [decide_eq_false hp]
    cases x with
    | false => rfl
    | true => exact absurd (h.1 rfl) hp
theorem sl_row11 {W : World} {s g n c : Nat} {A : Option Addr} {vs : List Value} (h : Sl W s A n c vs) (hne : ∀ a, A = some a → a.block ≠ g) (cs : Array Value) : Sl (W.setRow g cs) s A n c vs := by
  refine ⟨h.1, h.2.1, fun ad ha j u hu => ?_⟩
  have h0 := h.2.2 ad ha j u hu
  rw [World.cell?_of_block (w := W) (by rw [add_block11]; exact setRow_other W g ad.block cs (hne ad ha))]
  exact h0
/-- Is this the operation that writes slot d? (An arm begins so: where it is another one, it fails at once.) -/
theorem at_slot11 {P : Program} {ops : Array Oper} {rest : List Oper} {a : Act} {w : World} {Q : Exit → Act → World → Prop} (d : Nat) {op : Op} {ty : TypeId} {pos : String} {after : Array Edge} {guard : Option (Nat × Bool)} (h : wpList P ops Q (⟨some d, op, ty, pos, after, guard⟩ :: rest) a w) : wpList P ops Q (⟨some d, op, ty, pos, after, guard⟩ :: rest) a w := h

theorem int_bounds11 {a : Int} (h : (Lit.int .i64 a).wf = true) : -9223372036854775808 ≤ a ∧ a ≤ 9223372036854775807 := by
  have h2 : (decide (IntKind.i64.min ≤ a) && decide (a ≤ IntKind.i64.max)) = true := h
  rw [Bool.and_eq_true, decide_eq_true_eq, decide_eq_true_eq] at h2
  exact h2
/-! Results: a struct, and a word beside it. -/
theorem results_row_tmp11 {P : Program} {fn : Func} {p u : Tmp} {ty : TypeId} (h : fn.results = #[.cell p ty, .tmp u]) (tmps : Array Value) (w : World) (g : Nat) (t : TypeId) (cs : Array Value) (d : TypeDesc)
    (hp : tmps.getD p undef = .pointer (some ⟨g, 0, none⟩)) (hg : w.heap[g]? = some (.cells cs t (0, 0)))
    (hu : P.underlying ty = some d) (hd : (match d with | .struct _ | .array _ _ => true | _ => false) = true) (hi : (P.info? ty).map (·.size) = some cs.size) :
    (results fn tmps).run P w = .ok (.tuple #[.agg cs, tmps.getD u undef]) w := by
  rw [results_cell_tmp h, hp]
  simp [asAddr, run_loadVar_row w g t ty cs (0, 0) d hg hu hd hi]

theorem results_rttt11 {P : Program} {fn : Func} {p u v x : Tmp} {ty : TypeId} (h : fn.results = #[.cell p ty, .tmp u, .tmp v, .tmp x]) (tmps : Array Value) (w : World) (g : Nat) (t : TypeId) (cs : Array Value) (d : TypeDesc)
    (hp : tmps.getD p undef = .pointer (some ⟨g, 0, none⟩)) (hg : w.heap[g]? = some (.cells cs t (0, 0)))
    (hu : P.underlying ty = some d) (hd : (match d with | .struct _ | .array _ _ => true | _ => false) = true) (hi : (P.info? ty).map (·.size) = some cs.size) :
    (results fn tmps).run P w = .ok (.tuple #[.agg cs, tmps.getD u undef, tmps.getD v undef, tmps.getD x undef]) w := by
  have e : (results fn tmps).run P w = ((asAddr (tmps.getD p undef)).run P w).andThen fun a w₁ => ((loadVar ty a).run P w₁).andThen fun y w₂ => .ok (.tuple #[y, tmps.getD u undef, tmps.getD v undef, tmps.getD x undef]) w₂ := by
    simp only [results, h]
    simp [Sem.run_bind, Result.andThen]
  rw [e, hp]
  simp [asAddr, run_loadVar_row w g t ty cs (0, 0) d hg hu hd hi]

/-! A region that draws its order: the condition on the world may be made stronger on the way. -/
theorem wpAnyH_more11 {P : Program} {ops : Array Oper} {Q : Exit → Act → World → Prop} {md : Region.Mode} {S T : World → Prop} (hST : ∀ w, T w → S w) :
    ∀ {fuel : Nat} {listed : Array Bool} {a : Act} {w : World}, wpAnyH P md ops Q T fuel listed a w → wpAnyH P md ops Q S fuel listed a w
  | 0, _, _, _, h => h
  | _ + 1, _, _, _, h => ⟨h.1, fun i hi => wpOp_mono (fun _ _ h' => ⟨hST _ h'.1, wpAnyH_more11 hST h'.2⟩) (h.2 i hi)⟩
theorem yields_load_row11 {P : Program} {ops : Array Oper} {S : World → Prop} {o : Oper} {a : Act} (ty : TypeId) (x : Operand) (ho : o.op = .load ty x) (g : Nat) (hx : a.eval x = .pointer (some ⟨g, 0, none⟩)) (t : TypeId) (cs : Array Value) (d : TypeDesc)
    (hS : ∀ w, S w → Has w g t cs) (hu : P.underlying ty = some d) (hd : (match d with | .struct _ | .array _ _ => true | _ => false) = true) (hi : (P.info? ty).map (·.size) = some cs.size) (hw : Region.wanted o (yielded ops a.tmps) = true) : YieldsIf P ops S o (.agg cs) a := by
  refine .inl ⟨hw, fun w h => ?_⟩
  unfold execOp
  simp only [ho, hx, Instr.loadAt, Instr.sureAddr, Sem.run_bind, Sem.run_pure, Result.andThen_ok, run_loadVar_row w g t ty cs (0, 0) d (hS w h) hu hd hi]

/-! Structs compared. -/
theorem wpList_aggCmp11 {P : Program} {ops : Array Oper} {rest : List Oper} {o : Oper} {a : Act} {w : World} {Q : Exit → Act → World → Prop} (op : BinOp) (t ty : TypeId) (x y : Operand) (ho : o.op = .binOp op t x y ty) (hw : Region.wanted o (yielded ops a.tmps) = true)
    (xs ys : Array Value) (hx : a.eval x = .agg xs) (hy : a.eval y = .agg ys) (hm : P.eqGuardType P.depth t = false) (v : Value) (hr : (binOp op t (.agg xs) (.agg ys)).run P w = .ok v w)
    (h : wpList P ops Q rest (a.put o.dst v) w) : wpList P ops Q (o :: rest) a w := by
  refine Go.BigFrame.wpList_want hw fun K hK => ?_
  unfold Oper.wp execOp
  simp only [ho, hx, hy, Sem.run_bind, run_eqGuard_agg w op t x y xs ys hm, Result.andThen_ok, hr, Sem.run_pure]
  exact hK _ _ h
theorem yields_aggCmp11 {P : Program} {ops : Array Oper} {S : World → Prop} {o : Oper} {a : Act} (op : BinOp) (t ty : TypeId) (x y : Operand) (ho : o.op = .binOp op t x y ty) (xs ys : Array Value) (hx : a.eval x = .agg xs) (hy : a.eval y = .agg ys) (hm : P.eqGuardType P.depth t = false) (v : Value) (hr : ∀ w, (binOp op t (.agg xs) (.agg ys)).run P w = .ok v w) (hw : Region.wanted o (yielded ops a.tmps) = true) : YieldsIf P ops S o v a := by
  refine .inl ⟨hw, fun w _ => ?_⟩
  unfold execOp
  simp only [ho, hx, hy, Sem.run_bind, run_eqGuard_agg w op t x y xs ys hm, Result.andThen_ok, hr, Sem.run_pure]
/-- A load of a whole struct, whose guard is decided: it comes up. -/
theorem wpList_load_rowW11 {P : Program} {ops : Array Oper} {rest : List Oper} {o : Oper} {a : Act} {w : World} {Q : Exit → Act → World → Prop} (ty : TypeId) (x : Operand) (ho : o.op = .load ty x) (hw : Region.wanted o (yielded ops a.tmps) = true)
    (g : Nat) (hx : a.eval x = .pointer (some ⟨g, 0, none⟩)) (t : TypeId) (cs : Array Value) (fr : Nat × Nat) (d : TypeDesc) (hg : w.heap[g]? = some (.cells cs t fr))
    (hu : P.underlying ty = some d) (hd : (match d with | .struct _ | .array _ _ => true | _ => false) = true) (hi : (P.info? ty).map (·.size) = some cs.size)
    (h : wpList P ops Q rest (a.put o.dst (.agg cs)) w) : wpList P ops Q (o :: rest) a w :=
  Go.BigFrame.wpList_want hw fun _ hK => wp_load_row ty x ho g hx t cs fr d hg hu hd hi (hK _ _ h)
theorem run_eqField11 {P : Program} (w : World) (d : Nat) (xs ys : Array Value) (f : Field) (fs : List Field) (a b : Value) (hn : f.name ≠ "_") (ha : (part f.type xs f.offset).run P w = .ok a w) (hb : (part f.type ys f.offset).run P w = .ok b w) (he : (Op.equalIn d f.type a b).run P w = .ok true w) :
    (Op.eqFields d xs ys (f :: fs)).run P w = (Op.eqFields d xs ys fs).run P w := by
  simp [Op.eqFields, hn, ha, hb, he]
theorem run_eqDone11 {P : Program} (w : World) (d : Nat) (xs ys : Array Value) : (Op.eqFields d xs ys []).run P w = .ok true w := by simp [Op.eqFields]
theorem run_part1_11 {P : Program} (w : World) (t : TypeId) (xs : Array Value) (i : Nat) (v : Value) (hagg : (isAgg t).run P w = .ok false w) (hv : xs[i]? = some v) : (part t xs i).run P w = .ok v w := by
  simp [part, hagg, hv]
def ints11 (l : List Int) : List Value := l.map (.int .i64)
theorem ints11_at {l : List Int} {i : Nat} (h : i < l.length) : (ints11 l)[i]? = some (.int .i64 l[i]) := by simp [ints11, h]
theorem ints11_app (l : List Int) (x : Int) : ints11 (l ++ [x]) = ints11 l ++ [.int .i64 x] := by simp [ints11]
/-! One cell more to a slice of the call's own. -/
theorem only_row11 (w : World) (g : Nat) (cs : Array Value) : w.grownBy (w.setRow g cs) (some g) :=
  ⟨rfl, rfl, rfl, by simp, fun k _ hk => setRow_other w g k cs (fun e => hk (by rw [e]))⟩
theorem push_facts11 {w0 w : World} {base n c b : Nat} {A : Option Addr} {xs : List Value} (e : TypeId) (u : Value) (h1 : u.oneCell' = true) (ho : w.ownsRow base e 1 (.slice A n c) n xs) (hb : Below base w0 w) (hbase : base ≤ w.heap.size) (hn : n ≤ 65536) (hby : b ≤ 1024) :
    Hid (([u] : List Value).length = 1 * 1) ∧ Hid ((w.alloc (.cells #[u] e)).ownsRow base e 1 (.slice A n c) n xs) ∧ Hid (∀ j v, ([u] : List Value)[j]? = some v → (w.alloc (.cells #[u] e)).cell? ((⟨w.heap.size, 0, none⟩ : Addr).add j) = some v) ∧
    Hid (∀ v ∈ ([u] : List Value), v.oneCell' = true) ∧ Hid (n + 1 ≤ maxLen ∧ (n + 1) * b ≤ 140737488355328 ∧ base ≤ (w.alloc (.cells #[u] e)).heap.size) ∧ Hid (Below base w0 (w.alloc (.cells #[u] e))) := by
  refine ⟨Lib.hid rfl, Lib.hid (ho.alloc _), Lib.hid fun j v hv => ?_, Lib.hid fun v hv => ?_, Lib.hid ⟨by unfold maxLen; omega, ?_, by simp; omega⟩, Lib.hid (hb.alloc hbase _)⟩
  · rw [WideShapes.add_plain, (Has.made w e _).cell, Nat.zero_add]
    simpa using hv
  · simp only [List.mem_cons, List.not_mem_nil, or_false] at hv
    subst hv
    exact h1
  · exact Nat.le_trans (Nat.mul_le_mul (show n + 1 ≤ 65537 by omega) hby) (by decide)
end Go.Proofs.Yteioefgckigbcaa
