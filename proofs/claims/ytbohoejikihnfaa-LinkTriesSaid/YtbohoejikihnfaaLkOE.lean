/-
  package link as landed: slices.Clone of bytes and of waits.
-/
import Derived.Test.YtbohoejikihnfaaLkOB

namespace Go.Proofs.Ytbohoejikihnfaa

open Go.RowKit

open Go.Great

set_option maxRecDepth 100000 in
set_option maxHeartbeats 2000000 in
theorem oclone8_any (A : Option Addr) (n c : Nat) (xs : List Nat) (w : World) (hs : Sl w 1 A n c (u8s xs)) (hn : n ≤ 100000) :
    Calls Try.prog 28 #[.slice A n c] w fun e w' => ∃ A' c', e = .returned (.slice A' n c') ∧ Hid (w'.ownsRow w.heap.size 5 1 (.slice A' n c') n (u8s xs)) ∧ Hid (Below w.heap.size w w') := by
  cases hA : A with
  | none =>
    subst hA
    obtain ⟨rfl, rfl⟩ := hs.2.1 rfl
    have e0 : u8s xs = [] := List.eq_nil_of_length_eq_zero (by simpa using hs.1)
    rw [e0]
    have HO0 : Hid (w.ownsRow w.heap.size 5 1 (.slice none 0 0) 0 []) := Lib.hid (World.ownsRow_nil w w.heap.size 5 1)
    have q1 := fun w : World => Lib.run_eql_slice_nil (P := Try.prog) w 25 5 none 0 0 0 0 Try.underlying25
    simp only [Option.isNone] at q1
    clear hs e0
    go_enter Try.func28, Try.ntmps28
    go_wp2
    go_ret
    exact ⟨none, 0, rfl, HO0, Lib.hid (Below.refl _ _)⟩
  | some ad =>
    subst hA
    have HSL := Lib.hid (hs.beside (.cells #[] 5))
    have HO := Lib.hid (World.ownsRow_lit (base := w.heap.size) (e := 5) (size := 1) w #[] 0 (Nat.le_refl _) (by unfold maxLen; omega) rfl)
    have HB : Hid (0 + n ≤ maxLen ∧ (0 + n) * 1 ≤ 140737488355328 ∧ w.heap.size ≤ (w.alloc (.cells #[] 5)).heap.size) := Lib.hid ⟨by unfold maxLen; omega, by omega, by simp⟩
    have HBL : Hid (Below w.heap.size w (w.alloc (.cells #[] 5))) := Lib.hid ((Below.refl _ _).alloc (Nat.le_refl _) _)
    have q1 := fun w : World => Lib.run_eql_slice_nil (P := Try.prog) w 25 5 (some ad) n c 0 0 Try.underlying25
    simp only [Option.isNone] at q1
    clear hs
    go_enter Try.func28, Try.ntmps28
    go_wp2_with (with_reducible refine wpList_pour (o := ⟨some 7, _, _, _, _, _⟩) rfl (.tmp 5) (.tmp 6) 25 rfl w.heap.size 5 (.int .u8 0) 1 1 Try.underlying25 info_u8 ?hz (by decide) (some ⟨w.heap.size, 0, none⟩) 0 0 [] ?hs HO (some ad) n c (u8s xs) ?hx HSL (Lib.hid (u8s_one xs)) HB ?next)
    all_goals try rfl
    case next =>
      intro A4 c4 w4 ho4 hg4
      have HO4 : Hid (w4.ownsRow w.heap.size 5 1 (.slice A4 n c4) n (u8s xs)) := Lib.hid (by simpa using ho4.out)
      clear ho4
      go_wp2
      go_ret
      exact ⟨A4, c4, rfl, HO4, Lib.hid (below_own HBL.out HB.out.2.2 HO.out (Nat.le_refl _) rfl hg4.out)⟩

set_option maxRecDepth 100000 in
set_option maxHeartbeats 2000000 in
theorem oclonew_any (A : Option Addr) (n c : Nat) (vs : List Value) (w : World) (hs : Sl w 4 A n c vs) (h1 : ∀ u ∈ vs, u.oneCell' = true) (hn : n ≤ 100000) :
    Calls Try.prog 43 #[.slice A n c] w fun e w' => ∃ A' c', e = .returned (.slice A' n c') ∧ Hid (w'.ownsRow w.heap.size 48 4 (.slice A' n c') n vs) ∧ Hid (Below w.heap.size w w') := by
  have H1 := Lib.hid h1
  clear h1
  cases hA : A with
  | none =>
    subst hA
    obtain ⟨rfl, rfl⟩ := hs.2.1 rfl
    have e0 : vs = [] := List.eq_nil_of_length_eq_zero (by simpa using hs.1)
    subst e0
    have HO0 : Hid (w.ownsRow w.heap.size 48 4 (.slice none 0 0) 0 []) := Lib.hid (World.ownsRow_nil w w.heap.size 48 4)
    have q1 := fun w : World => Lib.run_eql_slice_nil (P := Try.prog) w 22 48 none 0 0 0 0 Try.underlying22
    simp only [Option.isNone] at q1
    clear hs
    go_enter Try.func43, Try.ntmps43
    go_wp2
    go_ret
    exact ⟨none, 0, rfl, HO0, Lib.hid (Below.refl _ _)⟩
  | some ad =>
    subst hA
    have HSL := Lib.hid (hs.beside (.cells #[] 48))
    have HO := Lib.hid (World.ownsRow_lit (base := w.heap.size) (e := 48) (size := 4) w #[] 0 (Nat.le_refl _) (by unfold maxLen; omega) rfl)
    have HB : Hid (0 + n ≤ maxLen ∧ (0 + n) * 48 ≤ 140737488355328 ∧ w.heap.size ≤ (w.alloc (.cells #[] 48)).heap.size) := Lib.hid ⟨by unfold maxLen; omega, by omega, by simp⟩
    have HBL : Hid (Below w.heap.size w (w.alloc (.cells #[] 48))) := Lib.hid ((Below.refl _ _).alloc (Nat.le_refl _) _)
    have q1 := fun w : World => Lib.run_eql_slice_nil (P := Try.prog) w 22 48 (some ad) n c 0 0 Try.underlying22
    simp only [Option.isNone] at q1
    clear hs
    go_enter Try.func43, Try.ntmps43
    go_wp2_with (with_reducible refine wpList_pour (o := ⟨some 7, _, _, _, _, _⟩) rfl (.tmp 5) (.tmp 6) 22 rfl w.heap.size 48 (.agg #[.int .i64 0, .int .i64 0, .int .i64 0, .slice none 0 0]) 4 48 Try.underlying22 info_wait ?hz (by decide) (some ⟨w.heap.size, 0, none⟩) 0 0 [] ?hs HO (some ad) n c vs ?hx HSL H1 HB ?next)
    all_goals try rfl
    case next =>
      intro A4 c4 w4 ho4 hg4
      have HO4 : Hid (w4.ownsRow w.heap.size 48 4 (.slice A4 n c4) n vs) := Lib.hid (by simpa using ho4.out)
      clear ho4
      go_wp2
      go_ret
      exact ⟨A4, c4, rfl, HO4, Lib.hid (below_own HBL.out HB.out.2.2 HO.out (Nat.le_refl _) rfl hg4.out)⟩
end Go.Proofs.Ytbohoejikihnfaa
