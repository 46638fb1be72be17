/-
  OdoTotal answers true, and nothing that was there has turned.
-/
import Derived.Test.YtidokfbjfdkfdaaLawAwake04
namespace Go.Proofs.Ytidokfbjfdkfdaa
open Go.RowKit Fl
attribute [local irreducible] N E mval top U

set_option maxHeartbeats 2000000 in
theorem odoTotal_walk (a b c : Nat) (w : World) (wa : (Lit.float .f64 a).wf = true) (wb : (Lit.float .f64 b).wf = true) (wc : (Lit.float .f64 c).wf = true) :
    Calls Try.prog 7 #[.float .f64 a, .float .f64 b, .float .f64 c] w fun e w' => e = .returned (.bool true) ∧ Below w.heap.size w w' := by
  have cab := fun w => odo_less a b wa wb w
  have cba := fun w => odo_less b a wb wa w
  have caa := fun w => odo_less a a wa wa w
  have cbc := fun w => odo_less b c wb wc w
  have cac := fun w => odo_less a c wa wc w
  have sab := fun w => odo_same a b wa wb w
  have saa := fun w => odo_same a a wa wa w
  simp only [lessB, sameB] at *
  generalize key a = ka at *
  generalize key b = kb at *
  generalize key c = kc at *
  rw [show decide True = true from rfl] at saa
  rw [decide_eq_false (Int.lt_irrefl _)] at caa
  have SAA := Lib.hid saa; have CAA := Lib.hid caa; clear saa caa
  by_cases h1 : ka < kb
  · rw [decide_eq_true h1] at cab
    rw [decide_eq_false (by omega)] at cba
    rw [decide_eq_false (by omega)] at sab
    by_cases h2 : kb < kc
    · rw [decide_eq_true h2] at cbc
      rw [decide_eq_true (by omega)] at cac
      have CAB := Lib.hid cab; have CBA := Lib.hid cba; have CBC := Lib.hid cbc; have CAC := Lib.hid cac; have SAB := Lib.hid sab; clear cab cba cbc cac sab h1 h2
      go_enter Try.func7, Try.ntmps7
      go_wp2_with fail
      refine (awake04_any _).mono ?_
      rintro e wb1 ⟨rfl, b⟩
      have HB1 := Lib.hid b; clear b
      go_wp2_with fail
      refine (CAB.out _).mono ?_
      rintro e wb2 ⟨rfl, b⟩
      have HB2 := Lib.hid (HB1.out.trans (b.mono HB1.out.size)); clear b HB1
      go_wp2_with fail
      refine (CBA.out _).mono ?_
      rintro e wb3 ⟨rfl, b⟩
      have HB3 := Lib.hid (HB2.out.trans (b.mono HB2.out.size)); clear b HB2
      go_wp2_with fail
      refine (SAB.out _).mono ?_
      rintro e wb4 ⟨rfl, b⟩
      have HB4 := Lib.hid (HB3.out.trans (b.mono HB3.out.size)); clear b HB3
      go_wp2_with fail
      refine (SAA.out _).mono ?_
      rintro e wb5 ⟨rfl, b⟩
      have HB5 := Lib.hid (HB4.out.trans (b.mono HB4.out.size)); clear b HB4
      go_wp2_with fail
      refine (CAA.out _).mono ?_
      rintro e wb6 ⟨rfl, b⟩
      have HB6 := Lib.hid (HB5.out.trans (b.mono HB5.out.size)); clear b HB5
      go_wp2_with fail
      refine (CAB.out _).mono ?_
      rintro e wb7 ⟨rfl, b⟩
      have HB7 := Lib.hid (HB6.out.trans (b.mono HB6.out.size)); clear b HB6
      go_wp2_with fail
      refine (CBC.out _).mono ?_
      rintro e wb8 ⟨rfl, b⟩
      have HB8 := Lib.hid (HB7.out.trans (b.mono HB7.out.size)); clear b HB7
      go_wp2_with fail
      refine (CAC.out _).mono ?_
      rintro e wb9 ⟨rfl, b⟩
      have HB9 := Lib.hid (HB8.out.trans (b.mono HB8.out.size)); clear b HB8
      go_wp2_with fail
      refine (SAB.out _).mono ?_
      rintro e wb10 ⟨rfl, b⟩
      have HB10 := Lib.hid (HB9.out.trans (b.mono HB9.out.size)); clear b HB9
      go_wp2
      go_ret
      exact ⟨rfl, HB10.out⟩
    · rw [decide_eq_false h2] at cbc
      have CAB := Lib.hid cab; have CBA := Lib.hid cba; have CBC := Lib.hid cbc; have SAB := Lib.hid sab; clear cab cba cbc cac sab h1 h2
      go_enter Try.func7, Try.ntmps7
      go_wp2_with fail
      refine (awake04_any _).mono ?_
      rintro e wb1 ⟨rfl, b⟩
      have HB1 := Lib.hid b; clear b
      go_wp2_with fail
      refine (CAB.out _).mono ?_
      rintro e wb2 ⟨rfl, b⟩
      have HB2 := Lib.hid (HB1.out.trans (b.mono HB1.out.size)); clear b HB1
      go_wp2_with fail
      refine (CBA.out _).mono ?_
      rintro e wb3 ⟨rfl, b⟩
      have HB3 := Lib.hid (HB2.out.trans (b.mono HB2.out.size)); clear b HB2
      go_wp2_with fail
      refine (SAB.out _).mono ?_
      rintro e wb4 ⟨rfl, b⟩
      have HB4 := Lib.hid (HB3.out.trans (b.mono HB3.out.size)); clear b HB3
      go_wp2_with fail
      refine (SAA.out _).mono ?_
      rintro e wb5 ⟨rfl, b⟩
      have HB5 := Lib.hid (HB4.out.trans (b.mono HB4.out.size)); clear b HB4
      go_wp2_with fail
      refine (CAA.out _).mono ?_
      rintro e wb6 ⟨rfl, b⟩
      have HB6 := Lib.hid (HB5.out.trans (b.mono HB5.out.size)); clear b HB5
      go_wp2_with fail
      refine (CAB.out _).mono ?_
      rintro e wb7 ⟨rfl, b⟩
      have HB7 := Lib.hid (HB6.out.trans (b.mono HB6.out.size)); clear b HB6
      go_wp2_with fail
      refine (CBC.out _).mono ?_
      rintro e wb8 ⟨rfl, b⟩
      have HB8 := Lib.hid (HB7.out.trans (b.mono HB7.out.size)); clear b HB7
      go_wp2_with fail
      refine (SAB.out _).mono ?_
      rintro e wb9 ⟨rfl, b⟩
      have HB9 := Lib.hid (HB8.out.trans (b.mono HB8.out.size)); clear b HB8
      go_wp2
      go_ret
      exact ⟨rfl, HB9.out⟩
  · rw [decide_eq_false h1] at cab
    by_cases h3 : kb < ka
    · rw [decide_eq_true h3] at cba
      rw [decide_eq_false (by omega)] at sab
      have CAB := Lib.hid cab; have CBA := Lib.hid cba; have SAB := Lib.hid sab; clear cab cba cbc cac sab h1 h3
      go_enter Try.func7, Try.ntmps7
      go_wp2_with fail
      refine (awake04_any _).mono ?_
      rintro e wb1 ⟨rfl, b⟩
      have HB1 := Lib.hid b; clear b
      go_wp2_with fail
      refine (CAB.out _).mono ?_
      rintro e wb2 ⟨rfl, b⟩
      have HB2 := Lib.hid (HB1.out.trans (b.mono HB1.out.size)); clear b HB1
      go_wp2_with fail
      refine (CBA.out _).mono ?_
      rintro e wb3 ⟨rfl, b⟩
      have HB3 := Lib.hid (HB2.out.trans (b.mono HB2.out.size)); clear b HB2
      go_wp2_with fail
      refine (SAB.out _).mono ?_
      rintro e wb4 ⟨rfl, b⟩
      have HB4 := Lib.hid (HB3.out.trans (b.mono HB3.out.size)); clear b HB3
      go_wp2_with fail
      refine (SAA.out _).mono ?_
      rintro e wb5 ⟨rfl, b⟩
      have HB5 := Lib.hid (HB4.out.trans (b.mono HB4.out.size)); clear b HB4
      go_wp2_with fail
      refine (CAA.out _).mono ?_
      rintro e wb6 ⟨rfl, b⟩
      have HB6 := Lib.hid (HB5.out.trans (b.mono HB5.out.size)); clear b HB5
      go_wp2_with fail
      refine (CAB.out _).mono ?_
      rintro e wb7 ⟨rfl, b⟩
      have HB7 := Lib.hid (HB6.out.trans (b.mono HB6.out.size)); clear b HB6
      go_wp2_with fail
      refine (SAB.out _).mono ?_
      rintro e wb8 ⟨rfl, b⟩
      have HB8 := Lib.hid (HB7.out.trans (b.mono HB7.out.size)); clear b HB7
      go_wp2
      go_ret
      exact ⟨rfl, HB8.out⟩
    · obtain rfl : ka = kb := by omega
      rw [decide_eq_false h3] at cba
      rw [decide_eq_true rfl] at sab
      generalize decide (ka < kc) = v at *
      have CAB := Lib.hid cab; have CBA := Lib.hid cba; have CBC := Lib.hid cbc; have CAC := Lib.hid cac; have SAB := Lib.hid sab; clear cab cba cbc cac sab h1 h3
      go_enter Try.func7, Try.ntmps7
      go_wp2_with fail
      refine (awake04_any _).mono ?_
      rintro e wb1 ⟨rfl, b⟩
      have HB1 := Lib.hid b; clear b
      go_wp2_with fail
      refine (CAB.out _).mono ?_
      rintro e wb2 ⟨rfl, b⟩
      have HB2 := Lib.hid (HB1.out.trans (b.mono HB1.out.size)); clear b HB1
      go_wp2_with fail
      refine (CBA.out _).mono ?_
      rintro e wb3 ⟨rfl, b⟩
      have HB3 := Lib.hid (HB2.out.trans (b.mono HB2.out.size)); clear b HB2
      go_wp2_with fail
      refine (SAB.out _).mono ?_
      rintro e wb4 ⟨rfl, b⟩
      have HB4 := Lib.hid (HB3.out.trans (b.mono HB3.out.size)); clear b HB3
      go_wp2_with fail
      refine (SAA.out _).mono ?_
      rintro e wb5 ⟨rfl, b⟩
      have HB5 := Lib.hid (HB4.out.trans (b.mono HB4.out.size)); clear b HB4
      go_wp2_with fail
      refine (CAA.out _).mono ?_
      rintro e wb6 ⟨rfl, b⟩
      have HB6 := Lib.hid (HB5.out.trans (b.mono HB5.out.size)); clear b HB5
      go_wp2_with fail
      refine (CAB.out _).mono ?_
      rintro e wb7 ⟨rfl, b⟩
      have HB7 := Lib.hid (HB6.out.trans (b.mono HB6.out.size)); clear b HB6
      go_wp2_with fail
      refine (SAB.out _).mono ?_
      rintro e wb8 ⟨rfl, b⟩
      have HB8 := Lib.hid (HB7.out.trans (b.mono HB7.out.size)); clear b HB7
      go_wp2_with fail
      refine (CAC.out _).mono ?_
      rintro e wb9 ⟨rfl, b⟩
      have HB9 := Lib.hid (HB8.out.trans (b.mono HB8.out.size)); clear b HB8
      go_wp2_with fail
      refine (CBC.out _).mono ?_
      rintro e wb10 ⟨rfl, b⟩
      have HB10 := Lib.hid (HB9.out.trans (b.mono HB9.out.size)); clear b HB9
      go_wp2
      go_ret
      exact ⟨rfl, HB10.out⟩

end Go.Proofs.Ytidokfbjfdkfdaa
