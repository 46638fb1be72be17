/-
  LcRefA, LcRefB, LcRefC, LcRefD: merged.
-/
import Derived.Test.YteioefgckigbcaaLcEq
import Derived.Test.YteioefgckigbcaaSnRefD
import Derived.Test.YteioefgckigbcaaTpRefE
import Derived.BigQuiet
import Derived.IntWalk
import Derived.StillTailTactics

/-
  linesideref16, by contract: Extent, Of, Train, there, Met, Locked, Locks, Same.
-/
namespace Go.Proofs.Yteioefgckigbcaa

open Go.RowKit

open Go.Great
theorem of_take16 {l : List Lc3} {i : Nat} {s : Lc3} (h : l[i]? = some s) (train : Int) : ofL (l.take (i + 1)) train = if (s.train == train) = true then ofL (l.take i) train ++ [s] else ofL (l.take i) train := by
  unfold ofL
  rw [List.take_add_one, h, List.filter_append]
  show _ ++ List.filter _ [s] = _
  rw [List.filter_cons, List.filter_nil]
  split
  · rfl
  · simp
end Go.Proofs.Yteioefgckigbcaa

/-
  linesideref16, by contract: Met, Locked, Locks, Same.
-/
namespace Go.Proofs.Yteioefgckigbcaa

open Go.RowKit

open Go.Great

theorem step_pour16 {P : Program} {ops : Array Oper} {o : Oper} {a : Act} {w : World} {K : Act → World → Prop} {Q : Exit → Act → World → Prop} {E : Prop} (hgd : o.guard = none) (s x : Operand) (t : TypeId)
    (ho : o.op = .call { callee := .builtin .append, args := #[s, x], argTypes := #[t, t] })
    (base : Nat) (e : TypeId) (z : Value) (size bytes : Nat) (ht : P.underlying t = some (.slice e)) (hinfo : (P.info? e).map (fun i => (i.zero, i.size, i.bytes)) = some (some z, size, bytes))
    (hzs : z.cells.size = size) (hsz : 0 < size)
    (A : Option Addr) (n c : Nat) (xs : List Value) (hs : a.eval s = .slice A n c) (hown : Hid (w.ownsRow base e size (.slice A n c) n xs))
    (B : Option Addr) (m cc : Nat) (news : List Value) (hx : a.eval x = .slice B m cc) (hl : Hid (Sl w size B m cc news)) (h1 : Hid (∀ u ∈ news, u.oneCell' = true))
    (hb : Hid (n + m ≤ maxLen ∧ (n + m) * bytes ≤ 140737488355328 ∧ base ≤ w.heap.size))
    (h : ∀ A' c' w', Hid (w'.ownsRow base e size (.slice A' (n + m) c') (n + m) (xs ++ news)) → Hid (w.grownBy w' (Value.ownBlock (.slice A n c))) →
      K (a.put o.dst (.slice A' (n + m) c')) w') : if Region.wanted o (yielded ops a.tmps) = true then Oper.wp P o a w K Q else E := by
  cases B with
  | none =>
    obtain ⟨rfl, rfl⟩ := hl.out.2.1 rfl
    have e0 : news = [] := List.eq_nil_of_length_eq_zero (by simpa using hl.out.1)
    subst e0
    have hw : Region.wanted o (yielded ops a.tmps) = true := by simp [Region.wanted, hgd]
    rw [if_pos hw]
    obtain ⟨i, hi, _⟩ := info_parts hinfo
    have hr := run_append_owned_none (P := P) (w := w) base t o.type e i size ht hi (.slice A n c) n xs hown.out
    unfold Oper.wp execOp
    simp only [ho, resolve, invoke, builtin, Sem.run_bind, Sem.run_pure, Result.andThen_ok, List.map_toArray, List.map_cons, List.map_nil, hs, hx, hr]
    exact h A c w (show Hid _ by simpa using hown) (only_refl _ _)
  | some ad =>
    exact step_push hgd s x t ho base e z size bytes ht hinfo hzs hsz A n c xs hs hown ad m cc news hx hl.out.1 (hl.out.2.2 ad rfl) h1 hb h

end Go.Proofs.Yteioefgckigbcaa

/-
  linesideref16, by contract: May.
-/
namespace Go.Proofs.Yteioefgckigbcaa

open Go.RowKit

open Go.Great

theorem SlO.take16 {α : Type} {f : α → List Value} {k : Nat} {w : World} {A : Option Addr} {n c : Nat} {l : List α} (h : SlO f k w A n c l) (hf : ∀ x, (f x).length = k) {i : Nat} (hi : i ≤ n) : SlO f k w A i c (l.take i) := by
  have hl := h.1
  refine ⟨by rw [List.length_take]; omega, ?_, fun e => ?_, fun ad e j u hu => ?_⟩
  · rw [flat_len hf, List.length_take]
    congr 1
    omega
  · obtain ⟨h1, h2⟩ := h.2.2.1 e
    exact ⟨by omega, h2⟩
  · refine h.2.2.2 ad e j u ?_
    have h1 : l.flatMap f = (l.take i).flatMap f ++ (l.drop i).flatMap f := by rw [← List.flatMap_append, List.take_append_drop]
    rw [h1, List.getElem?_append_left (List.getElem?_eq_some_iff.1 hu).1]
    exact hu
theorem last_take16 {l : List Lc3} {i : Nat} {p : Lc3} (h : l[i]? = some p) (n : Int) : lastB (l.take (i + 1)) n = decide (p.no < n) := by
  rw [List.take_add_one, h]
  unfold lastB
  show (match (l.take i ++ [p]).getLast? with | none => true | some p => decide (p.no < n)) = _
  rw [List.getLast?_concat]
theorem may_step16 {t : Tp3} {next : Int} {l : List Lc3} {i : Nat} {k : Lc3} (h : l[i]? = some k) : mayGo t next (l.take i) (l.drop i) = (okK t next (l.take i) k && mayGo t next (l.take (i + 1)) (l.drop (i + 1))) := by
  rw [drop_at15 h, mayGo, List.take_add_one, h]
  rfl

end Go.Proofs.Yteioefgckigbcaa

/-
  linesideref16, by contract: Set, Free.
-/
namespace Go.Proofs.Yteioefgckigbcaa

open Go.RowKit

open Go.Great

theorem results_rtt16 {P : Program} {fn : Func} {p u v : Tmp} {ty : TypeId} (h : fn.results = #[.cell p ty, .tmp u, .tmp v]) (tmps : Array Value) (w : World) (g : Nat) (t : TypeId) (cs : Array Value) (d : TypeDesc)
    (hp : tmps.getD p undef = .pointer (some ⟨g, 0, none⟩)) (hg : w.heap[g]? = some (.cells cs t (0, 0)))
    (hu : P.underlying ty = some d) (hd : (match d with | .struct _ | .array _ _ => true | _ => false) = true) (hi : (P.info? ty).map (·.size) = some cs.size) :
    (results fn tmps).run P w = .ok (.tuple #[.agg cs, tmps.getD u undef, tmps.getD v undef]) w := by
  have e : (results fn tmps).run P w = ((asAddr (tmps.getD p undef)).run P w).andThen fun a w₁ => ((loadVar ty a).run P w₁).andThen fun y w₂ => .ok (.tuple #[y, tmps.getD u undef, tmps.getD v undef]) w₂ := by
    simp only [results, h]
    simp [Sem.run_bind, Result.andThen]
  rw [e, hp]
  simp [asAddr, run_loadVar_row w g t ty cs (0, 0) d hg hu hd hi]

theorem keep_take16 {l : List Lc3} {i : Nat} {s : Lc3} (h : l[i]? = some s) (no : Int) : (l.take (i + 1)).filter (keepN no) = if (s.no == no) = false then (l.take i).filter (keepN no) ++ [s] else (l.take i).filter (keepN no) := by
  rw [List.take_add_one, h, List.filter_append]
  show _ ++ List.filter _ [s] = _
  rw [List.filter_cons, List.filter_nil]
  unfold keepN
  cases (s.no == no) <;> simp
end Go.Proofs.Yteioefgckigbcaa
