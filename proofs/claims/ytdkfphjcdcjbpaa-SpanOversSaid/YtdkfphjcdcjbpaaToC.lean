/-
  package topo as landed: slices.Clone of steps; Bal, Route; isTooLong, repeatsEdge, haveBals.
-/
import Derived.Test.YtdkfphjcdcjbpaaToB

import Derived.Test.YtdkfphjcdcjbpaaTpRefC

namespace Go.Proofs.Ytdkfphjcdcjbpaa

open Go.RowKit

open Go.Great

theorem info_step13 : (Try.prog.info? 46).map (fun i => (i.zero, i.size, i.bytes)) = some (some (.agg #[.int .i64 0, .bool false]), 2, 16) := by kernel_rfl
theorem idx_find {α : Type} (p : α → Bool) (l : List α) : (idxL p l = -1 ∧ l.find? p = none) ∨ ∃ (j : Nat) (x : α), l[j]? = some x ∧ idxL p l = j ∧ l.find? p = some x := by
  unfold idxL
  rcases idxA_spec p l 0 with ⟨h1, h2⟩ | ⟨j, x, h1, h2, h3, h4⟩
  · exact .inl ⟨h1, find_none13 fun m y _ hy => h2 m y hy⟩
  · exact .inr ⟨j, x, h1, by rw [h4]; congr 1; omega, find_at13 h1 h2 h3⟩

end Go.Proofs.Ytdkfphjcdcjbpaa
