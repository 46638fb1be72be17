/-
  linesidelaw03.awake: the chapter's examples hold.
-/
import Derived.Test.YtahoaifhheaphaaScaleC
namespace Go.Proofs.Ytahoaifhheaphaa
open Go.RowKit

set_option maxRecDepth 100000 in
set_option maxHeartbeats 1000000 in
theorem awake03_any (w : World) : Calls Try.prog 9 #[] w fun e w' => e = .returned (.bool true) ∧ w = w' := by
  have c1 := dm_any 25 1 w
  have c2 := scaled_any 259 1 true w
  have c3 := sum_any 1099511627776 1 w
  have c4 := best_any 32767 w
  have c5 := best_any 3276601 w
  rw [show pair (dmOf 25 1) = .tuple #[.int .i64 250, .int .i64 0] from by kernel_rfl] at c1
  rw [show pair (scaledOf 259 1 true) = .tuple #[.int .i64 26, .int .i64 0] from by kernel_rfl] at c2
  rw [show pair (sumOf 1099511627776 1) = .tuple #[.int .i64 0, .int .i64 7] from by kernel_rfl] at c3
  rw [show bestOf 32767 = 1 from by kernel_rfl] at c4
  rw [show bestOf 3276601 = -1 from by kernel_rfl] at c5
  have C1 := Lib.hid c1; have C2 := Lib.hid c2; have C3 := Lib.hid c3; have C4 := Lib.hid c4; have C5 := Lib.hid c5
  clear c1 c2 c3 c4 c5
  go_enter Try.func9, Try.ntmps9
  go_wp2_with fail
  refine C1.out.mono ?_
  rintro e w' ⟨rfl, rfl⟩
  go_wp2_with fail
  refine C2.out.mono ?_
  rintro e w' ⟨rfl, rfl⟩
  go_wp2_with fail
  refine C3.out.mono ?_
  rintro e w' ⟨rfl, rfl⟩
  go_wp2_with fail
  refine C4.out.mono ?_
  rintro e w' ⟨rfl, rfl⟩
  go_wp2_with fail
  refine C5.out.mono ?_
  rintro e w' ⟨rfl, rfl⟩
  go_wp2
  go_ret
  exact ⟨rfl, rfl⟩
end Go.Proofs.Ytahoaifhheaphaa
