/-
  Two structs and a word handed back; what the calls of this layer say.
-/
import Derived.Test.YtekcnmimfhiblaaShFits
import Derived.Test.YtekcnmimfhiblaaMgB
namespace Go.Proofs.Ytekcnmimfhiblaa
open Go.RowKit
open Go.Great

theorem results_cct9 {P : Program} {fn : Func} {p q u : Tmp} {ty ty2 : TypeId} (h : fn.results = #[.cell p ty, .cell q ty2, .tmp u]) (tmps : Array Value) (w : World) (g g2 : Nat) (t t2 : TypeId) (cs cs2 : Array Value) (d d2 : TypeDesc)
    (hp : tmps.getD p undef = .pointer (some ⟨g, 0, none⟩)) (hg : Has w g t cs)
    (hu : P.underlying ty = some d) (hd : (match d with | .struct _ | .array _ _ => true | _ => false) = true) (hi : (P.info? ty).map (·.size) = some cs.size)
    (hp2 : tmps.getD q undef = .pointer (some ⟨g2, 0, none⟩)) (hg2 : Has w g2 t2 cs2)
    (hu2 : P.underlying ty2 = some d2) (hd2 : (match d2 with | .struct _ | .array _ _ => true | _ => false) = true) (hi2 : (P.info? ty2).map (·.size) = some cs2.size) :
    (results fn tmps).run P w = .ok (.tuple #[.agg cs, .agg cs2, tmps.getD u undef]) w := by
  have e : (results fn tmps).run P w = ((asAddr (tmps.getD p undef)).run P w).andThen fun a w₁ => ((loadVar ty a).run P w₁).andThen fun x w₂ => ((asAddr (tmps.getD q undef)).run P w₂).andThen fun b w₃ => ((loadVar ty2 b).run P w₃).andThen fun y w₄ => .ok (.tuple #[x, y, tmps.getD u undef]) w₄ := by
    simp only [results, h]
    simp [Sem.run_bind, Result.andThen]
  rw [e, hp, hp2]
  simp [asAddr, run_loadVar_row w g t ty cs (0, 0) d hg hu hd hi, run_loadVar_row w g2 t2 ty2 cs2 (0, 0) d2 hg2 hu2 hd2 hi2]
/-- Two structs stored, one behind the other. -/
theorem two_rows {W : World} {gp gq : Nat} {tp tq : TypeId} {oldp oldq : Array Value} (hp : Has W gp tp oldp) (hq : Has W gq tq oldq) (hne : gq ≠ gp) (cp cq : Array Value) :
    Has (W.setRow gp cp) gq tq oldq ∧ Has ((W.setRow gp cp).setRow gq cq) gp tp cp ∧ Has ((W.setRow gp cp).setRow gq cq) gq tq cq :=
  ⟨has_setRow_other7 hq hne cp, has_setRow_other7 (has_setRow7 hp cp) (Ne.symm hne) cq, has_setRow7 (has_setRow_other7 hq hne cp) cq⟩

theorem below_al9 {w W : World} (h : Below w.heap.size w W) (o : Obj) : Below w.heap.size w (W.alloc o) := h.alloc h.size o
theorem sl_row9 {W : World} {s g n c : Nat} {A : Option Addr} {vs : List Value} (h : Sl W s A n c vs) (hne : ∀ a, A = some a → a.block ≠ g) (cs : Array Value) : Sl (W.setRow g cs) s A n c vs :=
  h.grow2 (only_row W g cs) (fun a ha e => hne a ha (Option.some.inj e))
/-- An end, a PDU with no body, an error. -/
def ShPost3 (r : Peer × Pdu × Int) (w : World) (e : Ending) (w' : World) : Prop := e = .returned (.tuple #[prV r.1, pdV r.2.1 none 0, .int .i64 r.2.2]) ∧ Below w.heap.size w w'
/-- An end, an error. -/
def ShPost2 (r : Peer × Int) (w : World) (e : Ending) (w' : World) : Prop := e = .returned (.tuple #[prV r.1, .int .i64 r.2]) ∧ Below w.heap.size w w'
end Go.Proofs.Ytekcnmimfhiblaa
