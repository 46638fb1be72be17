/-
  VarsRows, called in a world whose widths are the table's: it answers true, and nothing that was there has turned.
-/
import Derived.Test.YtijececmengdmaaDoorLawAwake02
import Derived.Test.YtijececmengdmaaDoorVarsRefFns
namespace Go.Proofs.YtijececmengdmaaDoor
open Go.RowKit

set_option maxHeartbeats 2000000 in
theorem varsRows_walk (v : Int) (w : World) (wv : (Lit.int .i64 v).wf = true) (hw : Wd w) :
    Calls Tryd.prog 3 #[.int .i64 v] w fun e w' => e = .returned (.bool true) ∧ Below w.heap.size w w' := by
  have HA := Lib.hid (awake02_any w hw)
  have HW := Lib.hid hw; clear hw
  go_enter Tryd.func3, Tryd.ntmps3
  go_wp2_with fail
  refine HA.out.mono ?_
  rintro e w1 ⟨rfl, b1⟩
  have HB1 := Lib.hid b1
  have HW1 := Lib.hid (HW.out.under b1)
  clear b1 HA HW
  go_wp2_with fail
  refine (width_any v w1 HW1.out).mono ?_
  rintro e w' ⟨rfl, rfl⟩
  go_wp2_with fail
  refine (ref_width v w1).mono ?_
  rintro e w2 ⟨rfl, b⟩
  have HB2 := Lib.hid (HB1.out.trans (b.mono HB1.out.size))
  have HW2 := Lib.hid (HW1.out.under b)
  clear b HB1 HW1
  go_wp2_with fail
  refine (most_any v w2 HW2.out).mono ?_
  rintro e w' ⟨rfl, rfl⟩
  go_wp2_with fail
  refine (ref_most v w2).mono ?_
  rintro e w3 ⟨rfl, b⟩
  have HB3 := Lib.hid (HB2.out.trans (b.mono HB2.out.size))
  have HW3 := Lib.hid (HW2.out.under b)
  clear b HB2 HW2
  go_wp2_with fail
  refine (special_any v w3).mono ?_
  rintro e w' ⟨rfl, rfl⟩
  go_wp2_with fail
  refine (ref_special v w3).mono ?_
  rintro e w4 ⟨rfl, b⟩
  have HB4 := Lib.hid (HB3.out.trans (b.mono HB3.out.size))
  have HW4 := Lib.hid (HW3.out.under b)
  clear b HB3 HW3
  go_wp2_with fail
  refine (name_any v w4).mono ?_
  rintro e w5 ⟨rfl, b⟩
  have HB5 := Lib.hid (HB4.out.trans (b.mono HB4.out.size))
  have HW5 := Lib.hid (HW4.out.under b)
  clear b HB4 HW4
  go_wp2_with fail
  refine (ref_name v w5).mono ?_
  rintro e w6 ⟨rfl, b⟩
  have HB6 := Lib.hid (HB5.out.trans (b.mono HB5.out.size))
  have HW6 := Lib.hid (HW5.out.under b)
  clear b HB5 HW5
  have hs : ((nameOf v).toList == (nameOf v).toList) = true := by rw [bytes_beq]; exact decide_eq_true rfl
  go_wp2
  go_ret
  exact ⟨rfl, HB6.out⟩
end Go.Proofs.YtijececmengdmaaDoor
