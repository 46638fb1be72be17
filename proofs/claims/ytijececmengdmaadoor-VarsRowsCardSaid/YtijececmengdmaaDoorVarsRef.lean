/-
  linesideref02: the document's answer for vars: its table, and a variable's row.
-/
import Derived.Test.YtijececmengdmaaDoorVars
import Derived.Test.YtijececmengdmaaDoorGreat
namespace Go.Proofs.YtijececmengdmaaDoor
open Go.RowKit

def rowOf (r : VRow) : List Value := [.string r.name, .int .i64 ((r.width : Nat) : Int), .int .i64 r.most, .int .i64 r.special]
def rowCells : Array Value := (vrows.flatMap rowOf).toArray

set_option maxHeartbeats 4000000 in
set_option maxRecDepth 100000 in
theorem table_any (w : World) :
    Calls Tryd.prog 26 #[] w fun e w' => ∃ g, e = .returned (.slice (some ⟨g, 0, none⟩) 96 96) ∧ w.heap.size ≤ g ∧ Has w' g 31 rowCells ∧ Below w.heap.size w w' := by
  refine calls_runSlot Tryd.func26 rfl rfl (.slice (some ⟨w.heap.size, 0, none⟩) 96 96) (w.alloc (.cells rowCells 31)) (by kernel_rfl) ?_
  exact ⟨_, rfl, Nat.le_refl _, Has.made _ _ _, (Below.refl _ _).alloc (Nat.le_refl _) _⟩
end Go.Proofs.YtijececmengdmaaDoor
