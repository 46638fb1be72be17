/-
  OdoOrders answers true, and nothing that was there has turned.
-/
import Derived.Test.YtidokfbjfdkfdaaLawAwake04
namespace Go.Proofs.Ytidokfbjfdkfdaa
open Go.RowKit Fl
attribute [local irreducible] N E mval top U

set_option maxHeartbeats 2000000 in
theorem odoOrders_walk (a b : Nat) (w : World) (wa : (Lit.float .f64 a).wf = true) (wb : (Lit.float .f64 b).wf = true) :
    Calls Try.prog 5 #[.float .f64 a, .float .f64 b] w fun e w' => e = .returned (.bool true) ∧ Below w.heap.size w w' := by
  have c1 := fun w => odo_less a b wa wb w
  have c2 := fun w => rless_any a b wa wb w
  have c3 := fun w => odo_same a b wa wb w
  have c4 := fun w => rsame_any a b wa wb w
  generalize lessB a b = x at *
  generalize sameB a b = y at *
  have C1 := Lib.hid c1; have C2 := Lib.hid (calls_below c2); have C3 := Lib.hid c3; have C4 := Lib.hid (calls_below c4); clear c1 c2 c3 c4
  go_enter Try.func5, Try.ntmps5
  go_wp2_with fail
  refine (awake04_any _).mono ?_
  rintro e wb1 ⟨rfl, b⟩
  have HB1 := Lib.hid b; clear b
  go_wp2_with fail
  refine (C1.out _).mono ?_
  rintro e wb2 ⟨rfl, b⟩
  have HB2 := Lib.hid (HB1.out.trans (b.mono HB1.out.size)); clear b HB1
  go_wp2_with fail
  refine (C2.out _).mono ?_
  rintro e wb3 ⟨rfl, b⟩
  have HB3 := Lib.hid (HB2.out.trans (b.mono HB2.out.size)); clear b HB2
  go_wp2_with fail
  refine (C3.out _).mono ?_
  rintro e wb4 ⟨rfl, b⟩
  have HB4 := Lib.hid (HB3.out.trans (b.mono HB3.out.size)); clear b HB3
  go_wp2_with fail
  refine (C4.out _).mono ?_
  rintro e wb5 ⟨rfl, b⟩
  have HB5 := Lib.hid (HB4.out.trans (b.mono HB4.out.size)); clear b HB4
  go_wp2
  go_ret
  exact ⟨rfl, HB5.out⟩

end Go.Proofs.Ytidokfbjfdkfdaa
