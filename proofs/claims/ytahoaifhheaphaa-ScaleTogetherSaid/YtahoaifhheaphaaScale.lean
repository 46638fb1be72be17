/-
  scale: the contracts of Unit, Dm, Scaled, Best, near and Sum, for whatever numbers.
-/
import Derived.Test.YtahoaifhheaphaaMem
import Derived.Lib.Hide
namespace Go.Proofs.Ytahoaifhheaphaa
open Go.RowKit

def unitOf (s : Int) : Int := if s = 0 then 1 else if s = 1 then 10 else if s = 2 then 100 else 0
def dmOf (n s : Int) : Int × Int := if unitOf s = 0 then (0, 1) else if n < 0 ∨ 32766 < n then (0, 7) else (n * unitOf s, 0)
def wholeOf (dm u : Int) (up : Bool) : Int := dm / u + if up = true ∧ dm % u ≠ 0 then 1 else 0
def scaledOf (dm s : Int) (up : Bool) : Int × Int :=
  if unitOf s = 0 then (0, 1) else if dm < 0 ∨ 1099511627776 < dm then (0, 7) else if 32766 < wholeOf dm (unitOf s) up then (0, 7) else (wholeOf dm (unitOf s) up, 0)
def bestOf (dm : Int) : Int := if (scaledOf dm 0 true).2 = 0 then 0 else if (scaledOf dm 1 true).2 = 0 then 1 else if (scaledOf dm 2 true).2 = 0 then 2 else -1
def nearB (a : Int) : Bool := decide (-1099511627776 ≤ a) && decide (a ≤ 1099511627776)
def sumOf (a b : Int) : Int × Int := if nearB a = true ∧ nearB b = true ∧ nearB (a + b) = true then (a + b, 0) else (0, 7)
def pair (x : Int × Int) : Value := .tuple #[.int .i64 x.1, .int .i64 x.2]

theorem unit_cases (s : Int) : unitOf s = 0 ∨ unitOf s = 1 ∨ unitOf s = 10 ∨ unitOf s = 100 := by
  unfold unitOf
  split
  · omega
  · split
    · omega
    · split <;> omega

set_option maxHeartbeats 1000000 in
theorem unit_any (s : Int) (w : World) :
    Calls Try.prog 12 #[.int .i64 s] w fun e w' => e = .returned (.int .i64 (unitOf s)) ∧ w = w' := by
  by_cases h0 : s = 0
  · subst h0
    rw [show unitOf 0 = 1 from rfl]
    go_enter Try.func12, Try.ntmps12
    go_wp2
    go_ret
    exact ⟨rfl, rfl⟩
  · by_cases h1 : s = 1
    · subst h1
      rw [show unitOf 1 = 10 from rfl]
      go_enter Try.func12, Try.ntmps12
      go_wp2
      go_ret
      exact ⟨rfl, rfl⟩
    · by_cases h2 : s = 2
      · subst h2
        rw [show unitOf 2 = 100 from rfl]
        go_enter Try.func12, Try.ntmps12
        go_wp2
        go_ret
        exact ⟨rfl, rfl⟩
      · rw [show unitOf s = 0 by simp [unitOf, h0, h1, h2]]
        go_enter Try.func12, Try.ntmps12
        go_wp2
        go_ret
        exact ⟨rfl, rfl⟩

set_option maxHeartbeats 1000000 in
theorem dm_any (n s : Int) (w : World) :
    Calls Try.prog 10 #[.int .i64 n, .int .i64 s] w fun e w' => e = .returned (pair (dmOf n s)) ∧ w = w' := by
  have hu := unit_cases s
  have c := unit_any s w
  rw [dmOf]
  generalize unitOf s = u at *
  have C := Lib.hid c; clear c
  by_cases h0 : u = 0
  · subst h0
    rw [if_pos rfl]
    clear hu
    go_enter Try.func10, Try.ntmps10
    go_wp2_with fail
    refine C.out.mono ?_
    rintro e w' ⟨rfl, rfl⟩
    go_wp2
    go_ret2
    exact ⟨rfl, rfl⟩
  · rw [if_neg h0]
    by_cases hn : n < 0 ∨ 32766 < n
    · rw [if_pos hn]
      obtain h | ⟨g, h⟩ : n < 0 ∨ (¬ n < 0 ∧ 32766 < n) := by omega
      · clear hu hn
        go_enter Try.func10, Try.ntmps10
        go_wp2_with fail
        refine C.out.mono ?_
        rintro e w' ⟨rfl, rfl⟩
        go_wp2
        go_ret2
        exact ⟨rfl, rfl⟩
      · clear hu hn
        go_enter Try.func10, Try.ntmps10
        go_wp2_with fail
        refine C.out.mono ?_
        rintro e w' ⟨rfl, rfl⟩
        go_wp2
        go_ret2
        exact ⟨rfl, rfl⟩
    · rw [if_neg hn]
      obtain ⟨h1, h2⟩ : ¬ n < 0 ∧ ¬ 32766 < n := by omega
      have hb : 0 ≤ n * u ∧ n * u ≤ 3276600 := by
        rcases hu with rfl | rfl | rfl | rfl <;> omega
      have hm : wrap64 (n * u) = n * u := by simp only [wrap64]; omega
      clear hu hn
      go_enter Try.func10, Try.ntmps10
      go_wp2_with fail
      refine C.out.mono ?_
      rintro e w' ⟨rfl, rfl⟩
      go_wp2
      go_ret2
      exact ⟨rfl, rfl⟩

theorem near_any (a : Int) (w : World) :
    Calls Try.prog 20 #[.int .i64 a] w fun e w' => e = .returned (.bool (nearB a)) ∧ w = w' := by
  by_cases h : -1099511627776 ≤ a
  · rw [nearB, decide_eq_true h, Bool.true_and]
    go_enter Try.func20, Try.ntmps20
    go_wp2
    go_ret
    exact ⟨rfl, rfl⟩
  · rw [nearB, decide_eq_false h, Bool.false_and]
    go_enter Try.func20, Try.ntmps20
    go_wp2
    go_ret
    exact ⟨rfl, rfl⟩

end Go.Proofs.Ytahoaifhheaphaa
