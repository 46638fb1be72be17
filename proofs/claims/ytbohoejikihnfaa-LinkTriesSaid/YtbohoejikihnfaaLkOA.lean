/-
  package link as landed: within, isTime, isBody, isDue, waitMay.
-/
import Derived.Test.YtbohoejikihnfaaLkMem

import Derived.Test.YtbohoejikihnfaaSpB

namespace Go.Proofs.Ytbohoejikihnfaa

open Go.RowKit

open Go.Great

def inB (a n b : Int) : Bool := decide (a ≤ n) && decide (n ≤ b)
set_option maxRecDepth 100000 in
set_option maxHeartbeats 8000000 in
theorem owithin_any (n a b : Int) (w : World) :
    Calls Try.prog 37 #[.int .i64 n, .int .i64 a, .int .i64 b] w fun e w' => e = .returned (.bool (inB a n b)) ∧ w = w' := by
  unfold inB
  by_cases h0 : a ≤ n
  · rw [decide_eq_true h0, Bool.true_and]
    go_enter Try.func37, Try.ntmps37
    go_wp2
    go_ret
    exact ⟨rfl, rfl⟩
  · rw [decide_eq_false h0, Bool.false_and]
    go_enter Try.func37, Try.ntmps37
    go_wp2
    go_ret
    exact ⟨rfl, rfl⟩

set_option maxRecDepth 100000 in
set_option maxHeartbeats 8000000 in
theorem oltime_any (t : Int) (w : World) :
    Calls Try.prog 25 #[.int .i64 t] w fun e w' => e = .returned (.bool (isT t)) ∧ w = w' := by
  have H := Lib.hid (later_any t 0 w)
  have he : isT t = (laterE t 0 == 0) := by
    have h0 : isT 0 = true := by decide
    unfold laterE laterB
    rw [h0, Int.add_zero]
    cases isT t <;> rfl
  rw [he]
  clear he
  unfold pairI at H
  generalize laterE t 0 = e1 at *
  generalize laterS t 0 = s1 at *
  go_enter Try.func25, Try.ntmps25
  go_wp2_with fail
  refine H.out.mono ?_
  rintro e w' ⟨rfl, rfl⟩
  go_wp2
  go_ret
  exact ⟨rfl, rfl⟩

set_option maxRecDepth 100000 in
set_option maxHeartbeats 8000000 in
theorem olbody_any (A : Option Addr) (c : Nat) (xs : List Nat) (w : World) :
    Calls Try.prog 26 #[.slice A xs.length c] w fun e w' => e = .returned (.bool (okB xs)) ∧ w = w' := by
  have he : okB xs = inB 1 xs.length 1023 := by
    unfold okB inB
    congr 1 <;> rw [decide_eq_decide] <;> omega
  rw [he]
  clear he
  have H := Lib.hid (owithin_any xs.length 1 1023 w)
  go_enter Try.func26, Try.ntmps26
  go_wp2_with fail
  refine H.out.mono ?_
  rintro e w' ⟨rfl, rfl⟩
  go_wp2
  go_ret
  exact ⟨rfl, rfl⟩

/-- A wait's cells, as an array. -/
def wtA (x : W0) (v : Value) : Array Value := #[.int .i64 x.t, .int .i64 x.due, .int .i64 x.tries, v]

set_option maxRecDepth 100000 in
set_option maxHeartbeats 8000000 in
theorem oldue_any (x : W0) (v : Value) (now : Int) (w : World) :
    Calls Try.prog 36 #[.agg (wtA x v), .int .i64 now] w fun e w' => e = .returned (.bool (decide (x.due ≤ now))) ∧ Below w.heap.size w w' := by
  obtain ⟨wa, hwa⟩ : ∃ wa, w.alloc (.cells (wtA x v) 48) = wa := ⟨_, rfl⟩
  have hbwa : Below w.heap.size w wa := by rw [← hwa]; exact (Below.refl _ _).alloc (Nat.le_refl _) _
  have h0 : Has wa w.heap.size 48 (wtA x v) := by rw [← hwa]; exact Has.made _ _ _
  have HWA := Lib.hid hwa; have HB := Lib.hid hbwa
  have c1 : wa.cell? ⟨w.heap.size, 1, none⟩ = some (.int .i64 x.due) := h0.cell 1
  clear hwa hbwa h0
  obtain ⟨t, due, tries, body⟩ := x
  dsimp only at *
  unfold wtA at *
  dsimp only at *
  generalize hb : decide (due ≤ now) = b
  go_enter Try.func36, Try.ntmps36
  go_upto_region 1 with fail
  rw [HWA.out]
  clear HWA
  go_wp2
  go_ret
  exact ⟨rfl, HB.out⟩

set_option maxRecDepth 100000 in
set_option maxHeartbeats 8000000 in
theorem olwait_any (x : W0) (B : Option Addr) (d : Nat) (most : Int) (w : World) :
    Calls Try.prog 48 #[.agg (wtA x (.slice B x.body.length d)), .int .i64 most] w fun e w' => e = .returned (.bool (okW most x)) ∧ Below w.heap.size w w' := by
  obtain ⟨wa, hwa⟩ : ∃ wa, w.alloc (.cells (wtA x (.slice B x.body.length d)) 48) = wa := ⟨_, rfl⟩
  have hbwa : Below w.heap.size w wa := by rw [← hwa]; exact (Below.refl _ _).alloc (Nat.le_refl _) _
  have h0 : Has wa w.heap.size 48 (wtA x (.slice B x.body.length d)) := by rw [← hwa]; exact Has.made _ _ _
  have HWA := Lib.hid hwa; have HB := Lib.hid hbwa
  have c0 : wa.cell? ⟨w.heap.size, 0, none⟩ = some (.int .i64 x.t) := h0.cell 0
  have c1 : wa.cell? ⟨w.heap.size, 1, none⟩ = some (.int .i64 x.due) := h0.cell 1
  have c2 : wa.cell? ⟨w.heap.size, 2, none⟩ = some (.int .i64 x.tries) := h0.cell 2
  have c3 : wa.cell? ⟨w.heap.size, 3, none⟩ = some (.slice B x.body.length d) := h0.cell 3
  clear hwa hbwa h0
  have H1 := Lib.hid (oltime_any x.t wa)
  have H2 := Lib.hid (owithin_any x.due 0 8589934592 wa)
  have H3 := Lib.hid (owithin_any x.tries 0 most wa)
  have H4 := Lib.hid (olbody_any B d x.body wa)
  have he : okW most x = (isT x.t && (inB 0 x.due 8589934592 && (inB 0 x.tries most && okB x.body))) := by
    unfold okW inB
    cases isT x.t <;> cases okB x.body <;> cases decide (0 ≤ x.due) <;> cases decide (x.due ≤ 8589934592) <;> cases decide (0 ≤ x.tries) <;> cases decide (x.tries ≤ most) <;> rfl
  rw [he]
  clear he
  generalize inB 0 x.due 8589934592 = b2 at *
  generalize inB 0 x.tries most = b3 at *
  generalize okB x.body = b4 at *
  generalize isT x.t = b1 at *
  obtain ⟨t, due, tries, body⟩ := x
  unfold wtA at *
  dsimp only at *
  obtain ⟨n, hn⟩ : ∃ n, body.length = n := ⟨_, rfl⟩
  rw [hn] at HWA c3 H4
  rw [hn]
  clear hn
  cases b1 with
  | false =>
    go_enter Try.func48, Try.ntmps48
    go_upto_region 1 with fail
    rw [HWA.out]
    clear HWA
    go_wp2_with fail
    refine H1.out.mono ?_
    rintro e w' ⟨rfl, rfl⟩
    go_wp2
    go_ret
    exact ⟨rfl, HB.out⟩
  | true =>
    cases b2 with
    | false =>
      go_enter Try.func48, Try.ntmps48
      go_upto_region 1 with fail
      rw [HWA.out]
      clear HWA
      go_wp2_with fail
      refine H1.out.mono ?_
      rintro e w' ⟨rfl, rfl⟩
      go_wp2_with fail
      refine H2.out.mono ?_
      rintro e w' ⟨rfl, rfl⟩
      go_wp2
      go_ret
      exact ⟨rfl, HB.out⟩
    | true =>
      cases b3 with
      | false =>
        go_enter Try.func48, Try.ntmps48
        go_upto_region 1 with fail
        rw [HWA.out]
        clear HWA
        go_wp2_with fail
        refine H1.out.mono ?_
        rintro e w' ⟨rfl, rfl⟩
        go_wp2_with fail
        refine H2.out.mono ?_
        rintro e w' ⟨rfl, rfl⟩
        go_wp2_with fail
        refine H3.out.mono ?_
        rintro e w' ⟨rfl, rfl⟩
        go_wp2
        go_ret
        exact ⟨rfl, HB.out⟩
      | true =>
        go_enter Try.func48, Try.ntmps48
        go_upto_region 1 with fail
        rw [HWA.out]
        clear HWA
        go_wp2_with fail
        refine H1.out.mono ?_
        rintro e w' ⟨rfl, rfl⟩
        go_wp2_with fail
        refine H2.out.mono ?_
        rintro e w' ⟨rfl, rfl⟩
        go_wp2_with fail
        refine H3.out.mono ?_
        rintro e w' ⟨rfl, rfl⟩
        go_wp2_with fail
        refine H4.out.mono ?_
        rintro e w' ⟨rfl, rfl⟩
        go_wp2
        go_ret
        exact ⟨rfl, HB.out⟩
end Go.Proofs.Ytbohoejikihnfaa
