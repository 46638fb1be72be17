/-
  linesideref01.Power: two to a number.
-/
import Derived.Test.YtijececmengdmaaDoorMem
namespace Go.Proofs.YtijececmengdmaaDoor
open Go.RowKit

theorem ret_int {k : IntKind} {a b : Int} (h : a = b) : Ending.returned (.int k a) = .returned (.int k b) := by rw [h]

set_option maxHeartbeats 400000 in
theorem power_any (n R : Nat) (hn : n ≤ 40) (hR : R = 2 ^ n) (w : World) :
    Calls Tryd.prog 24 #[.int .i64 (n : Nat)] w fun e w' => e = .returned (.int .i64 (R : Nat)) ∧ w = w' := by
  have HR := Lib.hid hR; clear hR
  go_enter Tryd.func24, Tryd.ntmps24
  go_wp2
  go_loop [3, 4] (fun p i => ∃ k : Nat, k ≤ n ∧ i = .int .i64 k ∧ p = .int .i64 ((2 ^ k : Nat) : Int)) (fun _ i => n - (intOf i).toNat)
  case atStart => exact ⟨0, by omega, rfl, rfl⟩
  case round =>
    obtain ⟨k, hk, rfl, rfl⟩ := hrel
    obtain ⟨P, hP⟩ : ∃ P, P = 2 ^ k := ⟨_, rfl⟩
    rw [← hP]
    have hPb : P ≤ 1099511627776 := by
      have h3 : (2 : Nat) ^ k ≤ 2 ^ 40 := Nat.pow_le_pow_right (by omega) (by omega)
      omega
    have HP := Lib.hid hP; clear hP
    by_cases hlt : k < n
    · go_wp2
      go_round
      case rel => exact ⟨k + 1, by omega, by go_num, by rw [Nat.pow_succ, ← HP.out]; go_num⟩
      case measure => simp [intOf]; omega
    · go_wp2
      go_ret
      obtain rfl : k = n := by omega
      exact ⟨ret_int (by rw [HR.out, HP.out]), rfl⟩

end Go.Proofs.YtijececmengdmaaDoor
