/-
  ScaleSums answers true, and nothing that was there has turned.
-/
import Derived.Test.YtahoaifhheaphaaLawAwake03
import Derived.Test.YtahoaifhheaphaaScaleRef
namespace Go.Proofs.Ytahoaifhheaphaa
open Go.RowKit

set_option maxHeartbeats 1000000 in
theorem scaleSums_walk (a b : Int) (w : World) (wa : (Lit.int .i64 a).wf = true) (wb : (Lit.int .i64 b).wf = true) :
    Calls Try.prog 5 #[.int .i64 a, .int .i64 b] w fun e w' => e = .returned (.bool true) ∧ Below w.heap.size w w' := by
  have c1 := sum_any a b w
  have c2 := ref_sum a b w
  generalize sumOf a b = x at *
  obtain ⟨y, z⟩ := x
  simp only [pair] at c1 c2
  have C1 := Lib.hid c1; have C2 := Lib.hid c2
  clear c1 c2
  go_enter Try.func5, Try.ntmps5
  go_wp2_with fail
  refine (awake03_any _).mono ?_
  rintro e w' ⟨rfl, rfl⟩
  go_wp2_with fail
  refine (C1.out).mono ?_
  rintro e w' ⟨rfl, rfl⟩
  go_wp2_with fail
  refine (C2.out).mono ?_
  rintro e w' ⟨rfl, rfl⟩
  go_wp2
  go_ret
  exact ⟨rfl, Below.refl _ _⟩

end Go.Proofs.Ytahoaifhheaphaa
