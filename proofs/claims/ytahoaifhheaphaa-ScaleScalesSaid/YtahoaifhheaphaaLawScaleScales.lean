/-
  ScaleScales answers true, and nothing that was there has turned.
-/
import Derived.Test.YtahoaifhheaphaaLawAwake03
import Derived.Test.YtahoaifhheaphaaScaleRef
namespace Go.Proofs.Ytahoaifhheaphaa
open Go.RowKit

set_option maxHeartbeats 1000000 in
theorem scaleScales_walk (dm s : Int) (w : World) (wdm : (Lit.int .i64 dm).wf = true) (ws : (Lit.int .i64 s).wf = true) :
    Calls Try.prog 4 #[.int .i64 dm, .int .i64 s] w fun e w' => e = .returned (.bool true) ∧ Below w.heap.size w w' := by
  have c1 := scaled_any dm s false w
  have c2 := fun w => ref_scaled dm s false w
  have c3 := fun w => scaled_any dm s true w
  have c4 := fun w => ref_scaled dm s true w
  have c5 := fun w => best_any dm w
  have c6 := fun w => ref_best dm w
  generalize scaledOf dm s false = x at *
  generalize scaledOf dm s true = y at *
  generalize bestOf dm = z at *
  obtain ⟨x1, x2⟩ := x
  obtain ⟨y1, y2⟩ := y
  simp only [pair] at c1 c2 c3 c4
  have C1 := Lib.hid c1; have C2 := Lib.hid c2; have C3 := Lib.hid c3; have C4 := Lib.hid c4; have C5 := Lib.hid c5; have C6 := Lib.hid c6
  clear c1 c2 c3 c4 c5 c6
  go_enter Try.func4, Try.ntmps4
  go_wp2_with fail
  refine (awake03_any _).mono ?_
  rintro e w' ⟨rfl, rfl⟩
  go_wp2_with fail
  refine (C1.out).mono ?_
  rintro e w' ⟨rfl, rfl⟩
  go_wp2_with fail
  refine (C2.out _).mono ?_
  rintro e wb1 ⟨rfl, b⟩
  have HB1 := Lib.hid b; clear b
  go_wp2_with fail
  refine (C3.out _).mono ?_
  rintro e w' ⟨rfl, rfl⟩
  go_wp2_with fail
  refine (C4.out _).mono ?_
  rintro e wb2 ⟨rfl, b⟩
  have HB2 := Lib.hid (HB1.out.trans (b.mono HB1.out.size)); clear b
  go_wp2_with fail
  refine (C5.out _).mono ?_
  rintro e w' ⟨rfl, rfl⟩
  go_wp2_with fail
  refine (C6.out _).mono ?_
  rintro e wb3 ⟨rfl, b⟩
  have HB3 := Lib.hid (HB2.out.trans (b.mono HB2.out.size)); clear b
  go_wp2
  go_ret
  exact ⟨rfl, HB3.out⟩

end Go.Proofs.Ytahoaifhheaphaa
