/-
  stamp: times and valid stamps, the program's and the document's own.
-/
import Derived.Test.YtbohoejikihnfaaKit11

namespace Go.Proofs.Ytbohoejikihnfaa

open Go.RowKit

/-- A stamp. -/
structure Stp where
  last : Int
  ahead : Int
  behind : Int
  free : Bool
def stA (s : Stp) : Array Value := #[.int .i64 s.last, .int .i64 s.ahead, .int .i64 s.behind, .bool s.free]
def stV (s : Stp) : Value := .agg (stA s)
def stp0 : Stp := ⟨0, 0, 0, false⟩
def stZ : Array Value := #[.int .i64 0, .int .i64 0, .int .i64 0, .bool false]
def isT (n : Int) : Bool := decide (0 ≤ n) && decide (n ≤ 4294967294)
def mayS (s : Stp) : Bool := isT s.ahead && isT s.behind && (isT s.last || s.last == -1)
theorem isT_iff (n : Int) : isT n = true ↔ 0 ≤ n ∧ n ≤ 4294967294 := by simp [isT]

theorem time_any (n : Int) (w : World) :
    Calls Try.prog 49 #[.int .i64 n] w fun e w' => e = .returned (.bool (isT n)) ∧ w = w' := by
  by_cases h : 0 ≤ n
  · rw [isT, decide_eq_true h, Bool.true_and]
    go_enter Try.func49, Try.ntmps49
    go_wp2
    go_ret
    exact ⟨rfl, rfl⟩
  · rw [isT, decide_eq_false h, Bool.false_and]
    go_enter Try.func49, Try.ntmps49
    go_wp2
    go_ret
    exact ⟨rfl, rfl⟩

theorem rtime_any (n : Int) (w : World) :
    Calls Try.prog 31 #[.int .i64 n] w fun e w' => e = .returned (.bool (isT n)) ∧ w = w' := by
  have hlt : decide (n ≤ 4294967294) = decide (n < 4294967295) := by
    rw [decide_eq_decide]; omega
  by_cases h : 0 ≤ n
  · rw [isT, decide_eq_true h, Bool.true_and, hlt]
    clear hlt
    go_enter Try.func31, Try.ntmps31
    go_wp2
    go_ret
    exact ⟨rfl, rfl⟩
  · rw [isT, decide_eq_false h, Bool.false_and]
    clear hlt
    go_enter Try.func31, Try.ntmps31
    go_wp2
    go_ret
    exact ⟨rfl, rfl⟩

end Go.Proofs.Ytbohoejikihnfaa
