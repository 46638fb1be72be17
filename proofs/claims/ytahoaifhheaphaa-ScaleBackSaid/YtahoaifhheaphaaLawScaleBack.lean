/-
  ScaleBack answers true, and nothing that was there has turned.
-/
import Derived.Test.YtahoaifhheaphaaLawAwake03
namespace Go.Proofs.Ytahoaifhheaphaa
open Go.RowKit

theorem back_of (n s : Int) (up : Bool) (h0 : unitOf s ≠ 0) (h1 : ¬ (n < 0 ∨ 32766 < n)) : scaledOf (n * unitOf s) s up = (n, 0) := by
  have hu := unit_cases s
  rw [scaledOf, if_neg h0]
  generalize unitOf s = u at *
  have e1 : ¬ (n * u < 0 ∨ 1099511627776 < n * u) := by rcases hu with rfl | rfl | rfl | rfl <;> omega
  have e2 : wholeOf (n * u) u up = n := by
    rw [wholeOf]
    have hq : n * u / u = n := Int.mul_ediv_cancel _ h0
    have hr : n * u % u = 0 := Int.mul_emod_left _ _
    rw [hq, hr]
    simp
  rw [if_neg e1, e2, if_neg (by omega)]

set_option maxHeartbeats 1000000 in
theorem scaleBack_walk (n s : Int) (w : World) (wn : (Lit.int .i64 n).wf = true) (ws : (Lit.int .i64 s).wf = true) :
    Calls Try.prog 6 #[.int .i64 n, .int .i64 s] w fun e w' => e = .returned (.bool true) ∧ Below w.heap.size w w' := by
  clear wn ws
  by_cases h0 : unitOf s = 0
  · have e1 : dmOf n s = (0, 1) := by rw [dmOf, if_pos h0]
    have c1 := dm_any n s w
    rw [e1, pair] at c1
    have C1 := Lib.hid c1; clear c1 e1 h0
    go_enter Try.func6, Try.ntmps6
    go_wp2_with fail
    refine (awake03_any _).mono ?_
    rintro e w' ⟨rfl, rfl⟩
    go_wp2_with fail
    refine (C1.out).mono ?_
    rintro e w' ⟨rfl, rfl⟩
    go_wp2
    go_ret
    exact ⟨rfl, Below.refl _ _⟩
  · by_cases h1 : n < 0 ∨ 32766 < n
    · have e1 : dmOf n s = (0, 7) := by rw [dmOf, if_neg h0, if_pos h1]
      have c1 := dm_any n s w
      rw [e1, pair] at c1
      have C1 := Lib.hid c1; clear c1 e1 h0 h1
      go_enter Try.func6, Try.ntmps6
      go_wp2_with fail
      refine (awake03_any _).mono ?_
      rintro e w' ⟨rfl, rfl⟩
      go_wp2_with fail
      refine (C1.out).mono ?_
      rintro e w' ⟨rfl, rfl⟩
      go_wp2
      go_ret
      exact ⟨rfl, Below.refl _ _⟩
    · have e1 : dmOf n s = (n * unitOf s, 0) := by rw [dmOf, if_neg h0, if_neg h1]
      have c1 := dm_any n s w
      have c2 := scaled_any (n * unitOf s) s false w
      have c3 := scaled_any (n * unitOf s) s true w
      rw [e1, pair] at c1
      rw [back_of n s _ h0 h1, pair] at c2 c3
      generalize n * unitOf s = m at *
      have C1 := Lib.hid c1; have C2 := Lib.hid c2; have C3 := Lib.hid c3; clear c1 c2 c3 e1 h0 h1
      go_enter Try.func6, Try.ntmps6
      go_wp2_with fail
      refine (awake03_any _).mono ?_
      rintro e w' ⟨rfl, rfl⟩
      go_wp2_with fail
      refine (C1.out).mono ?_
      rintro e w' ⟨rfl, rfl⟩
      go_wp2_with fail
      refine (C2.out).mono ?_
      rintro e w' ⟨rfl, rfl⟩
      go_wp2_with fail
      refine (C3.out).mono ?_
      rintro e w' ⟨rfl, rfl⟩
      go_wp2
      go_ret
      exact ⟨rfl, Below.refl _ _⟩

end Go.Proofs.Ytahoaifhheaphaa
