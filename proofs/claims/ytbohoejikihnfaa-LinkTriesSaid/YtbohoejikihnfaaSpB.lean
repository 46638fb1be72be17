/-
  stamp: New, Release, Later and Take, the program's and the document's own.
-/
import Derived.Test.YtbohoejikihnfaaSpA

namespace Go.Proofs.Ytbohoejikihnfaa

open Go.RowKit

open Go.Great

def newE (a b : Int) : Int := if isT a = true ∧ isT b = true then 0 else 1
def newS (a b : Int) : Stp := if isT a = true ∧ isT b = true then ⟨-1, a, b, false⟩ else stp0
def laterB (a b : Int) : Bool := isT a && isT b && isT (a + b)
def laterE (a b : Int) : Int := if laterB a b = true then 0 else 7
def laterS (a b : Int) : Int := if laterB a b = true then a + b else 0
def relS (s : Stp) : Stp := { s with free := true }
def stale (s : Stp) (t now : Int) : Prop := t < now - s.behind ∨ now + s.ahead < t ∨ (s.free = false ∧ t ≤ s.last)
def fitB (s : Stp) (t now : Int) : Bool := mayS s && isT t && isT now
instance (s : Stp) (t now : Int) : Decidable (stale s t now) := by unfold stale; infer_instance
def takeE (s : Stp) (t now : Int) : Int := if fitB s t now = true then (if stale s t now then 110 else 0) else 1
def takeS (s : Stp) (t now : Int) : Stp := if takeE s t now = 0 then ⟨t, s.ahead, s.behind, false⟩ else stp0
def pairI (x y : Int) : Value := .tuple #[.int .i64 x, .int .i64 y]
def stE (s : Stp) (e : Int) : Value := .tuple #[stV s, .int .i64 e]

set_option maxRecDepth 100000 in
set_option maxHeartbeats 2000000 in
theorem later_any (a b : Int) (w : World) :
    Calls Try.prog 39 #[.int .i64 a, .int .i64 b] w fun e w' => e = .returned (pairI (laterS a b) (laterE a b)) ∧ w = w' := by
  have H1 := Lib.hid (time_any a w)
  have H2 := Lib.hid (time_any b w)
  unfold laterS laterE laterB pairI
  by_cases ha : isT a = true
  · by_cases hb : isT b = true
    · obtain ⟨c, hc⟩ : ∃ c, a + b = c := ⟨_, rfl⟩
      have hr : wrap64 (a + b) = c := by
        have h1 := (isT_iff a).1 ha
        have h2 := (isT_iff b).1 hb
        rw [← hc]
        exact IntWalk.wrap64_in _ (by omega)
      have H3 := Lib.hid (time_any c w)
      rw [hc]
      rw [ha] at H1 ⊢
      rw [hb] at H2 ⊢
      simp only [Bool.true_and]
      generalize isT c = d at *
      clear ha hb hc
      cases d with
      | false =>
        go_enter Try.func39, Try.ntmps39
        go_wp2_with fail
        refine H1.out.mono ?_
        rintro e w' ⟨rfl, rfl⟩
        go_wp2_with fail
        refine H2.out.mono ?_
        rintro e w' ⟨rfl, rfl⟩
        go_wp2_with fail
        refine H3.out.mono ?_
        rintro e w' ⟨rfl, rfl⟩
        go_wp2
        go_ret2
        exact ⟨rfl, rfl⟩
      | true =>
        go_enter Try.func39, Try.ntmps39
        go_wp2_with fail
        refine H1.out.mono ?_
        rintro e w' ⟨rfl, rfl⟩
        go_wp2_with fail
        refine H2.out.mono ?_
        rintro e w' ⟨rfl, rfl⟩
        go_wp2_with fail
        refine H3.out.mono ?_
        rintro e w' ⟨rfl, rfl⟩
        go_wp2
        go_ret2
        exact ⟨rfl, rfl⟩
    · rw [Bool.not_eq_true] at hb
      rw [ha] at H1 ⊢
      rw [hb] at H2 ⊢
      clear ha hb
      go_enter Try.func39, Try.ntmps39
      go_wp2_with fail
      refine H1.out.mono ?_
      rintro e w' ⟨rfl, rfl⟩
      go_wp2_with fail
      refine H2.out.mono ?_
      rintro e w' ⟨rfl, rfl⟩
      go_wp2
      go_ret2
      exact ⟨rfl, rfl⟩
  · rw [Bool.not_eq_true] at ha
    rw [ha] at H1 ⊢
    clear ha
    go_enter Try.func39, Try.ntmps39
    go_wp2_with fail
    refine H1.out.mono ?_
    rintro e w' ⟨rfl, rfl⟩
    go_wp2
    go_ret2
    exact ⟨rfl, rfl⟩

end Go.Proofs.Ytbohoejikihnfaa
