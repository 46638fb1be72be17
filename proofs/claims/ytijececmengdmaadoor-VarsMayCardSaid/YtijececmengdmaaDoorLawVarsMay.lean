/-
  VarsMay, called in a world whose widths are the table's: it answers true, and nothing that was there has turned.
-/
import Derived.Test.YtijececmengdmaaDoorLawAwake02
import Derived.Test.YtijececmengdmaaDoorVarsRefMay
namespace Go.Proofs.YtijececmengdmaaDoor
open Go.RowKit

set_option maxHeartbeats 2000000 in
theorem varsMay_walk (v n : Int) (w : World) (wv : (Lit.int .i64 v).wf = true) (wn : (Lit.int .i64 n).wf = true) (hw : Wd w) :
    Calls Tryd.prog 4 #[.int .i64 v, .int .i64 n] w fun e w' => e = .returned (.bool true) ∧ Below w.heap.size w w' := by
  have HA := Lib.hid (awake02_any w hw)
  have HW := Lib.hid hw; clear hw
  go_enter Tryd.func4, Tryd.ntmps4
  go_wp2_with fail
  refine HA.out.mono ?_
  rintro e w1 ⟨rfl, b1⟩
  have HB1 := Lib.hid b1
  have HW1 := Lib.hid (HW.out.under b1)
  clear b1 HA HW
  go_wp2_with fail
  refine (may_var v n w1 HW1.out).mono ?_
  rintro e w' ⟨rfl, rfl⟩
  go_wp2_with fail
  refine (ref_may v n w1).mono ?_
  rintro e w2 ⟨rfl, b⟩
  have HB2 := Lib.hid (HB1.out.trans (b.mono HB1.out.size))
  have HW2 := Lib.hid (HW1.out.under b)
  clear b HB1 HW1
  go_wp2
  go_ret
  exact ⟨rfl, HB2.out⟩
end Go.Proofs.YtijececmengdmaaDoor
