/-
  OdoWholes answers true, and nothing that was there has turned.
-/
import Derived.Test.YtidokfbjfdkfdaaLawAwake04
namespace Go.Proofs.Ytidokfbjfdkfdaa
open Go.RowKit Fl
attribute [local irreducible] N E mval top U

set_option maxHeartbeats 2000000 in
theorem odoWholes_walk (x : Nat) (w : World) (wx : (Lit.float .f64 x).wf = true) :
    Calls Try.prog 3 #[.float .f64 x] w fun e w' => e = .returned (.bool true) ∧ Below w.heap.size w w' := by
  have c1 := fun w => odo_whole x wx w
  have c2 := fun w => rwhole_any x wx w
  generalize wholeF x = v at *
  obtain ⟨a, b⟩ := v
  simp only [pair] at c1 c2
  have C1 := Lib.hid c1; have C2 := Lib.hid (calls_below c2); clear c1 c2
  go_enter Try.func3, Try.ntmps3
  go_wp2_with fail
  refine (awake04_any _).mono ?_
  rintro e wb1 ⟨rfl, b⟩
  have HB1 := Lib.hid b; clear b
  go_wp2_with fail
  refine (C1.out _).mono ?_
  rintro e wb2 ⟨rfl, b⟩
  have HB2 := Lib.hid (HB1.out.trans (b.mono HB1.out.size)); clear b HB1
  go_wp2_with fail
  refine (C2.out _).mono ?_
  rintro e wb3 ⟨rfl, b⟩
  have HB3 := Lib.hid (HB2.out.trans (b.mono HB2.out.size)); clear b HB2
  go_wp2
  go_ret
  exact ⟨rfl, HB3.out⟩

end Go.Proofs.Ytidokfbjfdkfdaa
