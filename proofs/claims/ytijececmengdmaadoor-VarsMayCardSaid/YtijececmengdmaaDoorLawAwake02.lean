/-
  linesidelaw02.awake: the chapter's examples hold.
-/
import Derived.Test.YtijececmengdmaaDoorVarsMay
import Derived.Test.YtijececmengdmaaDoorVarsNames
namespace Go.Proofs.YtijececmengdmaaDoor
open Go.RowKit

set_option maxRecDepth 100000 in
set_option maxHeartbeats 1000000 in
theorem awake02_any (w : World) (hw : Wd w) : Calls Tryd.prog 8 #[] w fun e w' => e = .returned (.bool true) ∧ Below w.heap.size w w' := by
  have c1 := width_any 2 w hw
  have c2 := most_any 20 w hw
  have c3 := special_any 20 w
  have c4 := may_var 8 2 w hw
  have c5 := may_var 8 3 w hw
  have c6 := may_var 38 126 w hw
  have c7 := may_var 38 125 w hw
  have c8 := name_any 0 w
  rw [show widthOf 2 = 32 from by kernel_rfl] at c1
  rw [show mostOf 20 = 120 from by kernel_rfl] at c2
  rw [show specialOf 20 = 127 from by kernel_rfl] at c3
  rw [show mayOf 8 2 = true from by kernel_rfl] at c4
  rw [show mayOf 8 3 = false from by kernel_rfl] at c5
  rw [show mayOf 38 126 = true from by kernel_rfl] at c6
  rw [show mayOf 38 125 = false from by kernel_rfl] at c7
  rw [show nameOf 0 = ⟨#[78, 73, 68, 95, 77, 69, 83, 83, 65, 71, 69]⟩ from by kernel_rfl] at c8
  have C1 := Lib.hid c1; have C2 := Lib.hid c2; have C3 := Lib.hid c3; have C4 := Lib.hid c4; have C5 := Lib.hid c5; have C6 := Lib.hid c6; have C7 := Lib.hid c7; have C8 := Lib.hid c8
  clear c1 c2 c3 c4 c5 c6 c7 c8 hw
  go_enter Tryd.func8, Tryd.ntmps8
  go_wp2_with fail
  refine C1.out.mono ?_
  rintro e w' ⟨rfl, rfl⟩
  go_wp2_with fail
  refine C2.out.mono ?_
  rintro e w' ⟨rfl, rfl⟩
  go_wp2_with fail
  refine C3.out.mono ?_
  rintro e w' ⟨rfl, rfl⟩
  go_wp2_with fail
  refine C4.out.mono ?_
  rintro e w' ⟨rfl, rfl⟩
  go_wp2_with fail
  refine C5.out.mono ?_
  rintro e w' ⟨rfl, rfl⟩
  go_wp2_with fail
  refine C6.out.mono ?_
  rintro e w' ⟨rfl, rfl⟩
  go_wp2_with fail
  refine C7.out.mono ?_
  rintro e w' ⟨rfl, rfl⟩
  go_wp2_with fail
  refine C8.out.mono ?_
  rintro e w8 ⟨rfl, h8⟩
  have H8 := Lib.hid h8; clear h8
  have hs : ((⟨#[78, 73, 68, 95, 77, 69, 83, 83, 65, 71, 69]⟩ : ByteArray).toList == (⟨#[78, 73, 68, 95, 77, 69, 83, 83, 65, 71, 69]⟩ : ByteArray).toList) = true := by rw [bytes_beq]; exact decide_eq_true rfl
  have c9 := find_any ⟨#[81, 95, 68, 73, 82]⟩ w8
  rw [show findOf ⟨#[81, 95, 68, 73, 82]⟩ = 6 from by kernel_rfl] at c9
  have C9 := Lib.hid c9; clear c9
  go_wp2_with fail
  refine C9.out.mono ?_
  rintro e w9 ⟨rfl, h9⟩
  have H9 := Lib.hid h9; clear h9
  go_wp2
  go_ret
  exact ⟨rfl, H8.out.trans (H9.out.mono H8.out.size)⟩
end Go.Proofs.YtijececmengdmaaDoor
