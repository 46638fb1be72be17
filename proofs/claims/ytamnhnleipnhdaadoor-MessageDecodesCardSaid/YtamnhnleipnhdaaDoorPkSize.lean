/-
  package packet's Size, Known, Up, by contract.
-/
import Derived.Test.YtamnhnleipnhdaaDoorPkReal

namespace Go.Proofs.YtamnhnleipnhdaaDoor

open Go.RowKit

theorem run_neq_nil {P : Program} (w : World) (t e : TypeId) (a : Option Addr) (n c : Nat) (h : P.underlying t = some (.slice e)) :
    (binOp .neq t (.slice a n c) (.slice none 0 0)).run P w = .ok (.bool (!a.isNone)) w := by
  simp only [binOp]
  simp [Op.equal, Op.maxDepth, Lib.run_equalIn_slice_nil w 9999 t e a n c 0 0 h]
theorem opk_up (id : Int) (w : World) : Calls Tryd.prog 21 #[.int .i64 id] w fun e w' => e = .returned (.bool (upB id)) ∧ Below w.heap.size w w' := by
  have e : upB id = (decide (id = 0) || decide (id = 1) || decide (id = 11)) := rfl
  by_cases h0 : id = 0
  · subst h0
    go_enter Tryd.func21, Tryd.ntmps21
    go_wp2
    go_ret
    exact ⟨rfl, Below.refl _ _⟩
  · by_cases h1 : id = 1
    · subst h1
      go_enter Tryd.func21, Tryd.ntmps21
      go_wp2
      go_ret
      exact ⟨rfl, Below.refl _ _⟩
    · rw [e, decide_eq_false h0, decide_eq_false h1]
      have x0 : (id == 0) = false := by simp [h0]
      have x1 : (id == 1) = false := by simp [h1]
      clear e h0 h1
      by_cases h2 : id = 11
      · subst h2
        go_enter Tryd.func21, Tryd.ntmps21
        go_wp2
        go_ret
        exact ⟨rfl, Below.refl _ _⟩
      · have x2 : (id == 11) = false := by simp [h2]
        rw [decide_eq_false h2]
        clear h2
        go_enter Tryd.func21, Tryd.ntmps21
        go_wp2
        go_ret
        exact ⟨rfl, Below.refl _ _⟩

end Go.Proofs.YtamnhnleipnhdaaDoor
