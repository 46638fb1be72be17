/-
  linesidelaw16: LockExtents.
-/
import Derived.Test.YteioefgckigbcaaLawLcPlay

import Derived.BigQuiet

import Derived.IntWalk

namespace Go.Proofs.Yteioefgckigbcaa

open Go.RowKit

open Go.Great

theorem locked_len16 (t : Tp3) (l : List Lc3) (train : Int) : (lockedL t l train).length ≤ 32 * l.length := by
  unfold lockedL
  split
  · rename_i hc
    unfold normL
    refine Nat.le_trans (form_few _ _ _) ?_
    have h1 : ((ofL l train).flatMap fun k => extL t k.route).length ≤ 16 * (ofL l train).length := by
      generalize ofL l train = m
      induction m with
      | nil => simp
      | cons x r ih =>
        rw [List.flatMap_cons, List.length_append, List.length_cons]
        have := ext_few8 hc x.route
        omega
    have h2 : (ofL l train).length ≤ l.length := List.length_filter_le _ _
    simp only [List.length_nil]
    omega
  · simp
theorem set_few16 (t : Tp3) (x : It3) (route train : Int) : (setE t x route train).1.locks.length ≤ x.locks.length + 1 := by
  unfold setE zeroI
  split
  · simp
  · split
    · simp
    · split
      · simp
      · split
        · simp
        · split
          · simp
          · simp
theorem free_few16 (t : Tp3) (x : It3) (no : Int) : (freeE t x no).1.locks.length ≤ x.locks.length := by
  unfold freeE zeroI
  split
  · simp
  · split
    · simp
    · exact List.length_filter_le _ _

end Go.Proofs.Yteioefgckigbcaa
