/-
  ScaleDms, ScaleScales, ScaleSums: each answers true, and nothing that was there has turned.
-/
import Derived.Test.YtahoaifhheaphaaLawAwake03
import Derived.Test.YtahoaifhheaphaaScaleRef
namespace Go.Proofs.Ytahoaifhheaphaa
open Go.RowKit

set_option maxHeartbeats 1000000 in
theorem scaleDms_walk (n s : Int) (w : World) (wn : (Lit.int .i64 n).wf = true) (ws : (Lit.int .i64 s).wf = true) :
    Calls Try.prog 3 #[.int .i64 n, .int .i64 s] w fun e w' => e = .returned (.bool true) ∧ Below w.heap.size w w' := by
  have c1 := dm_any n s w
  have c2 := ref_dm n s w
  have c3 := unit_any s
  have c4 := ref_unit s
  obtain ⟨x, e⟩ : ∃ x, dmOf n s = x := ⟨_, rfl⟩
  obtain ⟨y, z⟩ := x
  rw [e] at c1 c2
  simp only [pair] at c1 c2
  generalize unitOf s = u at *
  clear e
  have C1 := Lib.hid c1; have C2 := Lib.hid c2; have C3 := Lib.hid c3; have C4 := Lib.hid c4
  clear c1 c2 c3 c4
  go_enter Try.func3, Try.ntmps3
  go_wp2_with fail
  refine (awake03_any w).mono ?_
  rintro e w' ⟨rfl, rfl⟩
  go_wp2_with fail
  refine C1.out.mono ?_
  rintro e w' ⟨rfl, rfl⟩
  go_wp2_with fail
  refine C2.out.mono ?_
  rintro e w2 ⟨rfl, b⟩
  have HB2 := Lib.hid b; clear b
  go_wp2_with fail
  refine (C3.out _).mono ?_
  rintro e w' ⟨rfl, rfl⟩
  go_wp2_with fail
  refine (C4.out _).mono ?_
  rintro e w4 ⟨rfl, b⟩
  have HB4 := Lib.hid (HB2.out.trans (b.mono HB2.out.size)); clear b
  go_wp2
  go_ret
  exact ⟨rfl, HB4.out⟩
end Go.Proofs.Ytahoaifhheaphaa
