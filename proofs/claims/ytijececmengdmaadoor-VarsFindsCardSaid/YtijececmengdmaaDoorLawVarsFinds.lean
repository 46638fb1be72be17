/-
  VarsFinds, called in a world whose widths are the table's: it answers true, and nothing that was there has turned.
-/
import Derived.Test.YtijececmengdmaaDoorLawAwake02
import Derived.Test.YtijececmengdmaaDoorVarsRefFind
namespace Go.Proofs.YtijececmengdmaaDoor
open Go.RowKit

set_option maxHeartbeats 2000000 in
theorem varsFinds_walk (s : ByteArray) (w : World) (ws : s.size ≤ maxLen) (hw : Wd w) :
    Calls Tryd.prog 5 #[.string s] w fun e w' => e = .returned (.bool true) ∧ Below w.heap.size w w' := by
  by_cases hlen : (100 : Int) < (s.size : Int)
  · have HA := Lib.hid (awake02_any w hw)
    have HW := Lib.hid hw; clear hw
    go_enter Tryd.func5, Tryd.ntmps5
    go_wp2_with fail
    refine HA.out.mono ?_
    rintro e w1 ⟨rfl, b1⟩
    have HB1 := Lib.hid b1
    have HW1 := Lib.hid (HW.out.under b1)
    clear b1 HA HW
    go_wp2
    go_ret
    exact ⟨rfl, HB1.out⟩
  · have HA := Lib.hid (awake02_any w hw)
    have HW := Lib.hid hw; clear hw
    go_enter Tryd.func5, Tryd.ntmps5
    go_wp2_with fail
    refine HA.out.mono ?_
    rintro e w1 ⟨rfl, b1⟩
    have HB1 := Lib.hid b1
    have HW1 := Lib.hid (HW.out.under b1)
    clear b1 HA HW
    go_wp2_with fail
    refine (find_any s w1).mono ?_
    rintro e w2 ⟨rfl, b⟩
    have HB2 := Lib.hid (HB1.out.trans (b.mono HB1.out.size))
    have HW2 := Lib.hid (HW1.out.under b)
    clear b HB1 HW1
    go_wp2_with fail
    refine (ref_find s w2).mono ?_
    rintro e w3 ⟨rfl, b⟩
    have HB3 := Lib.hid (HB2.out.trans (b.mono HB2.out.size))
    have HW3 := Lib.hid (HW2.out.under b)
    clear b HB2 HW2
    go_wp2
    go_ret
    exact ⟨rfl, HB3.out⟩
end Go.Proofs.YtijececmengdmaaDoor
