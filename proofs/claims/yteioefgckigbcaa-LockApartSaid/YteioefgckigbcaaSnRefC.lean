/-
  linesideref15, by contract: Norm, Union, Minus, Both, Within, Meets, Total.
-/
import Derived.Test.YteioefgckigbcaaSnRefB

import Derived.BigQuiet

import Derived.IntWalk

namespace Go.Proofs.Yteioefgckigbcaa

open Go.RowKit

open Go.Great

theorem empty_len {α : Type} (l : List α) : l.isEmpty = decide ((l.length : Int) = 0) := by
  cases l with
  | nil => rfl
  | cons x r =>
    rw [decide_eq_false (by rw [List.length_cons]; omega)]
    rfl
theorem some_len {α : Type} (l : List α) : (!l.isEmpty) = decide ((0 : Int) < (l.length : Int)) := by
  cases l with
  | nil => rfl
  | cons x r =>
    rw [decide_eq_true (by rw [List.length_cons]; omega)]
    rfl
theorem sum_take15 {l : List Sn3} {i : Nat} {x : Sn3} (hx : l[i]? = some x) : sumN (l.take (i + 1)) = sumN (l.take i) + (x.hi - x.lo) := by
  rw [List.take_add_one, hx, sumN_app]
  show _ + (x.hi - x.lo + 0) = _
  rw [Int.add_zero]

end Go.Proofs.Yteioefgckigbcaa
