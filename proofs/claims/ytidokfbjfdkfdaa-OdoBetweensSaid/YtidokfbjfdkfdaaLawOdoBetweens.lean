/-
  OdoBetweens answers true, and nothing that was there has turned.
-/
import Derived.Test.YtidokfbjfdkfdaaLawAwake04
namespace Go.Proofs.Ytidokfbjfdkfdaa
open Go.RowKit Fl
attribute [local irreducible] N E mval top U

set_option maxHeartbeats 2000000 in
theorem odoBetweens_walk (x o : Nat) (w : World) (wx : (Lit.float .f64 x).wf = true) (wo : (Lit.float .f64 o).wf = true) :
    Calls Try.prog 4 #[.float .f64 x, .float .f64 o] w fun e w' => e = .returned (.bool true) ∧ Below w.heap.size w w' := by
  have c1 := fun w => odo_between x o wx wo w
  have c2 := fun w => rbet_any x o wx wo w
  generalize betF x o = v at *
  obtain ⟨a, b, c⟩ := v
  simp only [triple] at c1 c2
  have C1 := Lib.hid c1; have C2 := Lib.hid c2; clear c1 c2
  go_enter Try.func4, Try.ntmps4
  go_wp2_with fail
  refine (awake04_any _).mono ?_
  rintro e wb1 ⟨rfl, b⟩
  have HB1 := Lib.hid b; clear b
  go_wp2_with fail
  refine (C1.out _).mono ?_
  rintro e wb2 ⟨rfl, b⟩
  have HB2 := Lib.hid (HB1.out.trans (b.mono HB1.out.size)); clear b HB1
  go_wp2_with fail
  refine (C2.out _).mono ?_
  rintro e wb3 ⟨rfl, b⟩
  have HB3 := Lib.hid (HB2.out.trans (b.mono HB2.out.size)); clear b HB2
  go_wp2
  go_ret
  exact ⟨rfl, HB3.out⟩

end Go.Proofs.Ytidokfbjfdkfdaa
