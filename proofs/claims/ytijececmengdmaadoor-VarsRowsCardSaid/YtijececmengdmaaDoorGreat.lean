/-
  A long row of operations walked at once, where it runs on closed terms: what it comes to is one closed fact.
-/
import Derived.Test.YtijececmengdmaaDoorRows
import Derived.WalkKit
import Derived.Great.Walk
namespace Go.Proofs.YtijececmengdmaaDoor
open Go.RowKit

/-- The frame and the world behind a list of operations, each of which yields a value. -/
def runOps (P : Program) : List Oper → Act → World → Option (Act × World)
  | [], a, w => some (a, w)
  | o :: l, a, w => match o.guard with
    | some _ => none
    | none => match (execOp a.eval o).run P w with
      | .ok (.value v) w' => runOps P l (a.put o.dst v) w'
      | _ => none

theorem wpList_runOps {P : Program} {ops : Array Oper} {Q : Exit → Act → World → Prop} : ∀ (l : List Oper) (a : Act) (w : World) (a' : Act) (w' : World),
    runOps P l a w = some (a', w') → wpList P ops Q [] a' w' → wpList P ops Q l a w
  | [], a, w, a', w', h, k => by
    simp only [runOps, Option.some.injEq, Prod.mk.injEq] at h
    obtain ⟨rfl, rfl⟩ := h
    exact k
  | o :: l, a, w, a', w', h, k => by
    unfold runOps at h
    split at h
    · cases h
    · rename_i hg
      split at h
      · rename_i v w1 hr
        exact Great.wpList_runTo hg o.dst rfl v w1 hr (wpList_runOps l _ _ a' w' h k)
      · cases h

/-- The same, of the frame no more than one slot's value and that nothing is deferred. -/
theorem wpList_runSlot {P : Program} {ops : Array Oper} {Q : Exit → Act → World → Prop} (l : List Oper) (a : Act) (w : World) (s : Tmp) (v : Value) (w' : World)
    (h : (runOps P l a w).map (fun x => (x.1.tmps.getD s undef, x.1.defers, x.2)) = some (v, [], w'))
    (k : ∀ a' : Act, a'.tmps.getD s undef = v → a'.defers = [] → wpList P ops Q [] a' w') : wpList P ops Q l a w := by
  obtain ⟨⟨a', w1⟩, h1, h2⟩ := Option.map_eq_some_iff.1 h
  simp only [Prod.mk.injEq] at h2
  obtain ⟨e1, e2, rfl⟩ := h2
  exact wpList_runOps l a w a' w1 h1 (k a' e1 e2)

/-- A function that is two such rows (its result's nought, and one statement) and hands back one slot. -/
theorem calls_runSlot {P : Program} {f : FuncId} {fn : Func} {id1 id2 : Nat} {ops1 ops2 : Array Oper} {s : Tmp} {args : Array Value} {w : World} {R : Ending → World → Prop} (hf : P.funcs[f]? = some fn)
    (hb : fn.body = some ((Code.region id1 ops1 false).seq ((Code.region id2 ops2 false).seq .ret))) (hr : fn.results = #[.tmp s]) (v : Value) (w' : World)
    (h : ((runOps P ops1.toList { tmps := args ++ Array.replicate (fn.ntmps - args.size) undef, defers := [] } w).bind fun x => runOps P ops2.toList x.1 x.2).map (fun x => (x.1.tmps.getD s undef, x.1.defers, x.2)) = some (v, [], w'))
    (k : R (.returned v) w') : Calls P f args w R := by
  obtain ⟨⟨a2, w2⟩, h0, h2⟩ := Option.map_eq_some_iff.1 h
  obtain ⟨⟨a1, w1⟩, h1, h3⟩ := Option.bind_eq_some_iff.1 h0
  simp only [Prod.mk.injEq] at h2
  obtain ⟨e1, e2, rfl⟩ := h2
  refine calls_of_wp hf hb (wp_seq (wp_region_list ?_))
  refine wpList_runOps ops1.toList _ w a1 w1 h1 (wpList_nil ?_)
  refine wp_seq (wp_region_list ?_)
  refine wpList_runOps ops2.toList a1 w1 a2 w2 h3 (wpList_nil ?_)
  refine wp_ret (bodyPost_ret (results_tmp hr _ _ _) e2 ?_)
  rw [e1]
  exact k
end Go.Proofs.YtijececmengdmaaDoor
