/-
  scale: the contract of Best.
-/
import Derived.Test.YtahoaifhheaphaaScaleB
namespace Go.Proofs.Ytahoaifhheaphaa
open Go.RowKit

/-- The smallest scale from s on that tells dm. -/
def bestFrom (dm : Int) (s : Nat) : Int :=
  if 3 ≤ s then -1 else if (scaledOf dm s true).2 = 0 then s else bestFrom dm (s + 1)
termination_by 3 - s
theorem bestFrom_out (dm : Int) (s : Nat) (h : 3 ≤ s) : bestFrom dm s = -1 := by rw [bestFrom, if_pos h]
theorem bestFrom_in (dm : Int) (s : Nat) (h : s < 3) : bestFrom dm s = if (scaledOf dm s true).2 = 0 then (s : Int) else bestFrom dm (s + 1) := by rw [bestFrom, if_neg (by omega)]
theorem bestFrom_zero (dm : Int) : bestFrom dm 0 = bestOf dm := by
  rw [bestFrom_in _ _ (by omega), bestFrom_in _ _ (by omega), bestFrom_in _ _ (by omega), bestFrom_out _ _ (by omega)]
  rfl

set_option maxHeartbeats 1000000 in
theorem best_any (dm : Int) (w : World) :
    Calls Try.prog 16 #[.int .i64 dm] w fun e w' => e = .returned (.int .i64 (bestOf dm)) ∧ w = w' := by
  rw [← bestFrom_zero]
  obtain ⟨B, hB⟩ : ∃ B, bestFrom dm 0 = B := ⟨_, rfl⟩
  rw [hB]
  have C := Lib.hid (fun s => scaled_any dm s true w)
  go_enter Try.func16, Try.ntmps16
  go_wp2
  go_loop [6] (fun i => ∃ k : Nat, k ≤ 3 ∧ i = .int .i64 k ∧ bestFrom dm k = B) (fun i => 3 - (intOf i).toNat)
  case atStart => exact ⟨0, by omega, rfl, hB⟩
  case round =>
    obtain ⟨k, hk, rfl, hf⟩ := hrel
    clear hB
    by_cases hlt : k < 3
    · rw [bestFrom_in _ _ hlt] at hf
      have c := C.out k
      generalize scaledOf dm k true = R at *
      obtain ⟨n, x⟩ := R
      by_cases hx : x = 0
      · rw [if_pos hx] at hf
        subst hf
        subst hx
        go_wp2_with fail
        refine c.mono ?_
        rintro e w' ⟨rfl, rfl⟩
        simp only [pair]
        go_wp2
        go_ret
        exact ⟨rfl, rfl⟩
      · rw [if_neg hx] at hf
        have HF := Lib.hid hf
        clear hf
        have hx1 : (x == 0) = false := by simp [hx]
        go_wp2_with fail
        refine c.mono ?_
        rintro e w' ⟨rfl, rfl⟩
        simp only [pair]
        go_wp2
        go_round
        case rel => exact ⟨k + 1, by omega, by go_num, HF.out⟩
        case measure => simp [intOf]; omega
    · rw [bestFrom_out _ _ (by omega)] at hf
      subst hf
      go_wp2
      go_ret
      exact ⟨rfl, rfl⟩

end Go.Proofs.Ytahoaifhheaphaa
