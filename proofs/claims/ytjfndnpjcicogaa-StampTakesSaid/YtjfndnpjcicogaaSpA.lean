/-
  stamp: times and valid stamps, the program's and the document's own.
-/
import Derived.Test.YtjfndnpjcicogaaKit11
namespace Go.Proofs.Ytjfndnpjcicogaa
open Go.RowKit

/-- A stamp. -/
structure Stp where
  last : Int
  ahead : Int
  behind : Int
  free : Bool
def stA (s : Stp) : Array Value := #[.int .i64 s.last, .int .i64 s.ahead, .int .i64 s.behind, .bool s.free]
def stV (s : Stp) : Value := .agg (stA s)
def stp0 : Stp := ⟨0, 0, 0, false⟩
def stZ : Array Value := #[.int .i64 0, .int .i64 0, .int .i64 0, .bool false]
def isT (n : Int) : Bool := decide (0 ≤ n) && decide (n ≤ 4294967294)
def mayS (s : Stp) : Bool := isT s.ahead && isT s.behind && (isT s.last || s.last == -1)
theorem isT_iff (n : Int) : isT n = true ↔ 0 ≤ n ∧ n ≤ 4294967294 := by simp [isT]

theorem time_any (n : Int) (w : World) :
    Calls Try.prog 19 #[.int .i64 n] w fun e w' => e = .returned (.bool (isT n)) ∧ w = w' := by
  by_cases h : 0 ≤ n
  · rw [isT, decide_eq_true h, Bool.true_and]
    go_enter Try.func19, Try.ntmps19
    go_wp2
    go_ret
    exact ⟨rfl, rfl⟩
  · rw [isT, decide_eq_false h, Bool.false_and]
    go_enter Try.func19, Try.ntmps19
    go_wp2
    go_ret
    exact ⟨rfl, rfl⟩

theorem rtime_any (n : Int) (w : World) :
    Calls Try.prog 21 #[.int .i64 n] w fun e w' => e = .returned (.bool (isT n)) ∧ w = w' := by
  have hlt : decide (n ≤ 4294967294) = decide (n < 4294967295) := by
    rw [decide_eq_decide]; omega
  by_cases h : 0 ≤ n
  · rw [isT, decide_eq_true h, Bool.true_and, hlt]
    clear hlt
    go_enter Try.func21, Try.ntmps21
    go_wp2
    go_ret
    exact ⟨rfl, rfl⟩
  · rw [isT, decide_eq_false h, Bool.false_and]
    clear hlt
    go_enter Try.func21, Try.ntmps21
    go_wp2
    go_ret
    exact ⟨rfl, rfl⟩

set_option maxRecDepth 100000 in
set_option maxHeartbeats 1000000 in
theorem may_any (s : Stp) (w : World) :
    Calls Try.prog 11 #[stV s] w fun e w' => e = .returned (.bool (mayS s)) ∧ Below w.heap.size w w' := by
  obtain ⟨wa, hwa⟩ : ∃ wa, w.alloc (.cells (stA s) 23) = wa := ⟨_, rfl⟩
  have hbwa : Below w.heap.size w wa := by rw [← hwa]; exact (Below.refl _ _).alloc (Nat.le_refl _) _
  have h0 : Has wa w.heap.size 23 (stA s) := by rw [← hwa]; exact Has.made _ _ _
  have HWA := Lib.hid hwa; have HB := Lib.hid hbwa
  have c0 : wa.cell? ⟨w.heap.size, 0, none⟩ = some (.int .i64 s.last) := h0.cell 0
  have c1 : wa.cell? ⟨w.heap.size, 1, none⟩ = some (.int .i64 s.ahead) := h0.cell 1
  have c2 : wa.cell? ⟨w.heap.size, 2, none⟩ = some (.int .i64 s.behind) := h0.cell 2
  clear hwa hbwa h0
  have H1 := Lib.hid (time_any s.ahead wa)
  have H2 := Lib.hid (time_any s.behind wa)
  have H3 := Lib.hid (time_any s.last wa)
  unfold mayS
  generalize isT s.ahead = b1 at *
  generalize isT s.behind = b2 at *
  generalize isT s.last = b3 at *
  obtain ⟨l, a, b, f⟩ := s
  unfold stV stA at *
  dsimp only at *
  cases b1 with
  | false =>
    go_enter Try.func11, Try.ntmps11
    go_upto_region 1 with fail
    rw [HWA.out]
    clear HWA
    go_wp2_with fail
    refine H1.out.mono ?_
    rintro e w' ⟨rfl, rfl⟩
    go_wp2
    go_ret
    exact ⟨rfl, HB.out⟩
  | true =>
    cases b2 with
    | false =>
      go_enter Try.func11, Try.ntmps11
      go_upto_region 1 with fail
      rw [HWA.out]
      clear HWA
      go_wp2_with fail
      refine H1.out.mono ?_
      rintro e w' ⟨rfl, rfl⟩
      go_wp2_with fail
      refine H2.out.mono ?_
      rintro e w' ⟨rfl, rfl⟩
      go_wp2
      go_ret
      exact ⟨rfl, HB.out⟩
    | true =>
      cases b3 with
      | false =>
        obtain ⟨m, hm⟩ : ∃ m, (l == -1) = m := ⟨_, rfl⟩
        rw [hm]
        go_enter Try.func11, Try.ntmps11
        go_upto_region 1 with fail
        rw [HWA.out]
        clear HWA
        go_wp2_with fail
        refine H1.out.mono ?_
        rintro e w' ⟨rfl, rfl⟩
        go_wp2_with fail
        refine H2.out.mono ?_
        rintro e w' ⟨rfl, rfl⟩
        go_wp2_with fail
        refine H3.out.mono ?_
        rintro e w' ⟨rfl, rfl⟩
        go_wp2
        go_ret
        exact ⟨rfl, HB.out⟩
      | true =>
        go_enter Try.func11, Try.ntmps11
        go_upto_region 1 with fail
        rw [HWA.out]
        clear HWA
        go_wp2_with fail
        refine H1.out.mono ?_
        rintro e w' ⟨rfl, rfl⟩
        go_wp2_with fail
        refine H2.out.mono ?_
        rintro e w' ⟨rfl, rfl⟩
        go_wp2_with fail
        refine H3.out.mono ?_
        rintro e w' ⟨rfl, rfl⟩
        go_wp2
        go_ret
        exact ⟨rfl, HB.out⟩

set_option maxRecDepth 100000 in
set_option maxHeartbeats 1000000 in
theorem rmay_any (s : Stp) (w : World) :
    Calls Try.prog 12 #[stV s] w fun e w' => e = .returned (.bool (mayS s)) ∧ Below w.heap.size w w' := by
  obtain ⟨wa, hwa⟩ : ∃ wa, w.alloc (.cells (stA s) 23) = wa := ⟨_, rfl⟩
  have hbwa : Below w.heap.size w wa := by rw [← hwa]; exact (Below.refl _ _).alloc (Nat.le_refl _) _
  have h0 : Has wa w.heap.size 23 (stA s) := by rw [← hwa]; exact Has.made _ _ _
  have HWA := Lib.hid hwa; have HB := Lib.hid hbwa
  have c0 : wa.cell? ⟨w.heap.size, 0, none⟩ = some (.int .i64 s.last) := h0.cell 0
  have c1 : wa.cell? ⟨w.heap.size, 1, none⟩ = some (.int .i64 s.ahead) := h0.cell 1
  have c2 : wa.cell? ⟨w.heap.size, 2, none⟩ = some (.int .i64 s.behind) := h0.cell 2
  clear hwa hbwa h0
  have H1 := Lib.hid (rtime_any s.ahead wa)
  have H2 := Lib.hid (rtime_any s.behind wa)
  have H3 := Lib.hid (rtime_any s.last wa)
  unfold mayS
  generalize isT s.ahead = b1 at *
  generalize isT s.behind = b2 at *
  generalize isT s.last = b3 at *
  obtain ⟨l, a, b, f⟩ := s
  unfold stV stA at *
  dsimp only at *
  cases b1 with
  | false =>
    go_enter Try.func12, Try.ntmps12
    go_upto_region 1 with fail
    rw [HWA.out]
    clear HWA
    go_wp2_with fail
    refine H1.out.mono ?_
    rintro e w' ⟨rfl, rfl⟩
    go_wp2_with fail
    refine H2.out.mono ?_
    rintro e w' ⟨rfl, rfl⟩
    go_wp2_with fail
    refine H3.out.mono ?_
    rintro e w' ⟨rfl, rfl⟩
    go_wp2
    go_ret
    exact ⟨rfl, HB.out⟩
  | true =>
    cases b2 with
    | false =>
      go_enter Try.func12, Try.ntmps12
      go_upto_region 1 with fail
      rw [HWA.out]
      clear HWA
      go_wp2_with fail
      refine H1.out.mono ?_
      rintro e w' ⟨rfl, rfl⟩
      go_wp2_with fail
      refine H2.out.mono ?_
      rintro e w' ⟨rfl, rfl⟩
      go_wp2_with fail
      refine H3.out.mono ?_
      rintro e w' ⟨rfl, rfl⟩
      go_wp2
      go_ret
      exact ⟨rfl, HB.out⟩
    | true =>
      cases b3 with
      | false =>
        obtain ⟨m, hm⟩ : ∃ m, (l == -1) = m := ⟨_, rfl⟩
        rw [hm]
        go_enter Try.func12, Try.ntmps12
        go_upto_region 1 with fail
        rw [HWA.out]
        clear HWA
        go_wp2_with fail
        refine H1.out.mono ?_
        rintro e w' ⟨rfl, rfl⟩
        go_wp2_with fail
        refine H2.out.mono ?_
        rintro e w' ⟨rfl, rfl⟩
        go_wp2_with fail
        refine H3.out.mono ?_
        rintro e w' ⟨rfl, rfl⟩
        go_wp2
        go_ret
        exact ⟨rfl, HB.out⟩
      | true =>
        go_enter Try.func12, Try.ntmps12
        go_upto_region 1 with fail
        rw [HWA.out]
        clear HWA
        go_wp2_with fail
        refine H1.out.mono ?_
        rintro e w' ⟨rfl, rfl⟩
        go_wp2_with fail
        refine H2.out.mono ?_
        rintro e w' ⟨rfl, rfl⟩
        go_wp2_with fail
        refine H3.out.mono ?_
        rintro e w' ⟨rfl, rfl⟩
        go_wp2
        go_ret
        exact ⟨rfl, HB.out⟩
end Go.Proofs.Ytjfndnpjcicogaa
