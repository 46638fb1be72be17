/-
  cmp.Compare of ints; cmp.Or of two ints.
-/
import Derived.Test.YteioefgckigbcaaRowK

import Derived.BigQuiet

namespace Go.Proofs.Yteioefgckigbcaa

open Go.RowKit

open Go.Great

set_option maxRecDepth 100000 in
set_option maxHeartbeats 8000000 in
theorem onan15 (x : Int) (w : World) :
    Calls Try.prog 94 #[.int .i64 x] w fun e w' => e = .returned (.bool false) ∧ w = w' := by
  have hx : (x != x) = false := by simp
  go_enter Try.func94, Try.ntmps94
  go_wp2
  go_ret
  exact ⟨rfl, rfl⟩

def cmpI15 (a b : Int) : Int := if a < b then -1 else if b < a then 1 else 0
set_option maxRecDepth 100000 in
set_option maxHeartbeats 8000000 in
theorem ocmp15 (x y : Int) (w : World) :
    Calls Try.prog 71 #[.int .i64 x, .int .i64 y] w fun e w' => e = .returned (.int .i64 (cmpI15 x y)) ∧ w = w' := by
  have H := Lib.hid (fun z => onan15 z w)
  unfold cmpI15
  rcases Int.lt_trichotomy x y with h | h | h
  · have h2 : ¬ y < x := by omega
    rw [if_pos h]
    go_enter Try.func71, Try.ntmps71
    go_wp2_with fail
    refine (H.out _).mono ?_
    rintro e w' ⟨rfl, rfl⟩
    go_wp2_with fail
    refine (H.out _).mono ?_
    rintro e w' ⟨rfl, rfl⟩
    go_wp2
    go_ret
    exact ⟨rfl, rfl⟩
  · subst h
    have h2 : ¬ x < x := by omega
    rw [if_neg h2, if_neg h2]
    go_enter Try.func71, Try.ntmps71
    go_wp2_with fail
    refine (H.out _).mono ?_
    rintro e w' ⟨rfl, rfl⟩
    go_wp2_with fail
    refine (H.out _).mono ?_
    rintro e w' ⟨rfl, rfl⟩
    go_wp2
    go_ret
    exact ⟨rfl, rfl⟩
  · have h2 : ¬ x < y := by omega
    rw [if_neg h2, if_pos h]
    go_enter Try.func71, Try.ntmps71
    go_wp2_with fail
    refine (H.out _).mono ?_
    rintro e w' ⟨rfl, rfl⟩
    go_wp2_with fail
    refine (H.out _).mono ?_
    rintro e w' ⟨rfl, rfl⟩
    go_wp2
    go_ret
    exact ⟨rfl, rfl⟩

set_option maxRecDepth 100000 in
set_option maxHeartbeats 8000000 in
theorem oor15 (b : Nat) (x y : Int) (w : World) (h : Has w b 3 #[.int .i64 x, .int .i64 y]) :
    Calls Try.prog 70 #[.slice (some ⟨b, 0, none⟩) 2 2] w fun e w' => e = .returned (.int .i64 (if x = 0 then y else x)) ∧ w = w' := by
  have c0 : w.cell? ⟨b, 0, none⟩ = some (.int .i64 x) := h.cell 0
  have c1 : w.cell? ⟨b, 1, none⟩ = some (.int .i64 y) := h.cell 1
  obtain ⟨R, hR⟩ : ∃ R, (if x = 0 then y else x) = R := ⟨_, rfl⟩
  have HR := Lib.hid hR
  rw [hR]
  clear hR h
  go_enter Try.func70, Try.ntmps70
  go_wp2
  go_loopg [8] 2 (fun kk v wl => ∃ j : Nat, j ≤ 2 ∧ 2 - j ≤ kk ∧ v = .int .i64 j ∧ Hid (0 < j → x = 0) ∧ Hid (1 < j → y = 0) ∧ w = wl)
  case atStart => exact ⟨0, by omega, by omega, rfl, Lib.hid fun h => absurd h (by omega), Lib.hid fun h => absurd h (by omega), rfl⟩
  case round =>
    obtain ⟨j, hj, hjk, rfl, HX, HY, rfl⟩ := hrel
    rcases (show j = 0 ∨ j = 1 ∨ j = 2 by omega) with rfl | rfl | rfl
    · by_cases hx : x = 0
      · subst hx
        have z0 : ((0 : Int) != 0) = false := by simp
        go_wp2
        go_roundg (gk - 1)
        case measure => omega
        case rel => exact ⟨1, by omega, by omega, by go_num, Lib.hid fun _ => (by first | rfl | trivial), Lib.hid fun h => absurd h (by omega), rfl⟩
      · have z0 : (x != 0) = true := by simp [hx]
        have HF : Hid (R = x) := Lib.hid (by rw [← HR.out, if_neg hx])
        go_wp2
        go_ret
        exact ⟨by rw [HF.out]; rfl, rfl⟩
    · have hx := HX.out (by omega)
      by_cases hy : y = 0
      · subst hy
        have z0 : ((0 : Int) != 0) = false := by simp
        have HX2 := Lib.hid hx
        clear hx
        go_wp2
        go_roundg (gk - 1)
        case measure => omega
        case rel => exact ⟨2, by omega, by omega, by go_num, Lib.hid fun _ => HX2.out, Lib.hid fun _ => (by first | rfl | trivial), rfl⟩
      · have z0 : (y != 0) = true := by simp [hy]
        have HF : Hid (R = y) := Lib.hid (by rw [← HR.out, if_pos hx])
        clear hx
        go_wp2
        go_ret
        exact ⟨by rw [HF.out]; rfl, rfl⟩
    · have HF : Hid (R = 0) := Lib.hid (by rw [← HR.out, if_pos (HX.out (by omega)), HY.out (by omega)])
      go_wp2
      go_ret
      exact ⟨by rw [HF.out]; rfl, rfl⟩

end Go.Proofs.Yteioefgckigbcaa
