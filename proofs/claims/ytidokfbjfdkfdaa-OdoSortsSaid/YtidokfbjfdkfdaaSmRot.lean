/-
  Package sort's own text: rotate_func.
-/
import Derived.Test.YtidokfbjfdkfdaaSmSwap
namespace Go.Proofs.Ytidokfbjfdkfdaa
open Go.RowKit Go.Sort Go.Lib
open Sm
variable {α : Type} [Inhabited α]

set_option maxHeartbeats 4000000 in
set_option maxRecDepth 100000 in
theorem rotate_any (enc : α → Value) (g : Nat) (lb : Array Value) (sf : Nat) (sb : Array Value) (blk off a m b : Nat) (d : Array α) (W : World)
    (hswap : SwapSwaps Try.prog sf sb enc blk off d.size) (hH : Holds enc W blk off d) (hblk : blk < W.heap.size) (ham : a < m) (hmb : m < b) (hb : b ≤ d.size) (hsz : d.size < 1099511627776) :
    Calls Try.prog 67 #[.agg #[.func (.func g) #[] lb, .func (.func sf) #[] sb], .int .i64 a, .int .i64 m, .int .i64 b] W fun e w' =>
      e = .returned (.tuple #[]) ∧ ∃ d', d'.size = d.size ∧ pl d' = rotF (pl d) a m b ∧ PermIn a b d d' ∧ SW enc W blk off d' w' := by
  have HSW := hid hswap
  have hH1 := holds_alloc hH hblk (.cells #[.func (.func g) #[] lb, .func (.func sf) #[] sb] 54)
  have HH := hid hH
  have HH1 := hid hH1
  clear hswap hH hH1
  go_enter Try.func67, Try.ntmps67
  go_wp2
  go_loopg [8, 9] (b - a) (fun kk vi vj wr => ∃ (i j : Nat) (d' : Array α), vi = .int .i64 i ∧ vj = .int .i64 j ∧ 0 < i ∧ 0 < j ∧ a + i ≤ m ∧ m + j ≤ b ∧ i + j ≤ kk ∧ d'.size = d.size ∧ rotF (pl d') (m - i) m (m + j) = rotF (pl d) a m b ∧ PermIn a b d d' ∧ SW enc (W.alloc (.cells #[.func (.func g) #[] lb, .func (.func sf) #[] sb] 54)) blk off d' wr)
  case atStart => exact ⟨m - a, b - m, d, by go_num, by go_num, by omega, by omega, by omega, by omega, by omega, rfl, by rw [show m - (m - a) = a by omega, show m + (b - m) = b by omega], permIn_refl _ _ _, SW.start HH1.out⟩
  case round =>
    obtain ⟨i, j, d', rfl, rfl, hi0, hj0, hi, hj, hk, hs, hv, hp, hw⟩ := hrel
    have c0 : wr.cell? ⟨W.heap.size, 0, none⟩ = some (.func (.func g) #[] lb) := sw_far hw (by omega) (by simp)
    have c1 : wr.cell? ⟨W.heap.size, 1, none⟩ = some (.func (.func sf) #[] sb) := sw_far hw (by omega) (by simp)
    have hblk1 : blk < (W.alloc (.cells #[.func (.func g) #[] lb, .func (.func sf) #[] sb] 54)).heap.size := by simp; omega
    have hHw : Holds enc wr blk off d' := hw.holds hblk1 HH1.out hs
    have hblkw : blk < wr.heap.size := hw.lt hblk1
    rcases Nat.lt_trichotomy i j with hij | rfl | hij
    · have hc := swapRange_any enc g lb sf sb blk off (m - i) (m + j - i) i d' wr (by rw [hs]; exact HSW.out) hHw hblkw (by omega) (by omega) (by omega)
      rw [show ((m - i : Nat) : Int) = (m : Int) - i by omega, show ((m + j - i : Nat) : Int) = (m : Int) + j - i by omega] at hc
      have x1 : ((i : Int) != (j : Int)) = true := by simp; omega
      have x2 : ¬ (j : Int) < i := by omega
      have HC := hid hc; have HV := hid hv; have HP := hid hp; have HW := hid hw
      clear hc hv hp hw hHw
      go_wp2_with fail
      refine HC.out.mono ?_
      rintro e w' ⟨rfl, d2, e1, e2, e3, e4⟩
      have hw2 := sw_onto HW.out hblk1 e4 e1
      have hv2 : rotF (pl d2) (m - i) m (m + (j - i)) = rotF (pl d) a m b := by rw [e2, rot_short _ _ _ _ (by omega) hij hi0]; exact HV.out
      have hp2 := permIn_trans _ _ _ a b HP.out (permIn_mono _ _ (m - i) (m + j - i + i) a b (by omega) (by omega) (by omega) e3)
      have HW2 := hid hw2; have HV2 := hid hv2; have HP2 := hid hp2
      clear hw2 hv2 hp2 e2 e3 e4
      go_wp2
      go_roundg (gk - 1)
      case measure => omega
      case rel => exact ⟨i, j - i, d2, rfl, by go_num, by omega, by omega, by omega, by omega, by omega, by omega, HV2.out, HP2.out, HW2.out⟩
    · have hc := swapRange_any enc g lb sf sb blk off (m - i) m i d' wr (by rw [hs]; exact HSW.out) hHw hblkw (by omega) (by omega) (by omega)
      rw [show ((m - i : Nat) : Int) = (m : Int) - i by omega] at hc
      have x1 : ((i : Int) != (i : Int)) = false := by simp
      have HC := hid hc; have HV := hid hv; have HP := hid hp; have HW := hid hw
      clear hc hv hp hw hHw
      go_wp2_with fail
      refine HC.out.mono ?_
      rintro e w' ⟨rfl, d2, e1, e2, e3, e4⟩
      have hw2 := sw_onto HW.out hblk1 e4 e1
      have hv2 : pl d2 = rotF (pl d) a m b := by rw [e2, rot_even _ _ _ (by omega)]; exact HV.out
      have hp2 := permIn_trans _ _ _ a b HP.out (permIn_mono _ _ (m - i) (m + i) a b (by omega) (by omega) (by omega) e3)
      have HW2 := hid hw2; have HV2 := hid hv2; have HP2 := hid hp2
      clear hw2 hv2 hp2 e2 e3 e4
      go_wp2
      go_end0
      exact ⟨rfl, d2, by omega, HV2.out, HP2.out, sw_of_alloc HH.out hblk HW2.out (by omega)⟩
    · have hc := swapRange_any enc g lb sf sb blk off (m - i) m j d' wr (by rw [hs]; exact HSW.out) hHw hblkw (by omega) (by omega) (by omega)
      rw [show ((m - i : Nat) : Int) = (m : Int) - i by omega] at hc
      have x1 : ((i : Int) != (j : Int)) = true := by simp; omega
      have x2 : (j : Int) < i := by omega
      have HC := hid hc; have HV := hid hv; have HP := hid hp; have HW := hid hw
      clear hc hv hp hw hHw
      go_wp2_with fail
      refine HC.out.mono ?_
      rintro e w' ⟨rfl, d2, e1, e2, e3, e4⟩
      have hw2 := sw_onto HW.out hblk1 e4 e1
      have hv2 : rotF (pl d2) (m - (i - j)) m (m + j) = rotF (pl d) a m b := by rw [e2, rot_long _ _ _ _ (by omega) hij hj0]; exact HV.out
      have hp2 := permIn_trans _ _ _ a b HP.out (permIn_mono _ _ (m - i) (m + j) a b (by omega) (by omega) (by omega) e3)
      have HW2 := hid hw2; have HV2 := hid hv2; have HP2 := hid hp2
      clear hw2 hv2 hp2 e2 e3 e4
      go_wp2
      go_roundg (gk - 1)
      case measure => omega
      case rel => exact ⟨i - j, j, d2, by go_num, rfl, by omega, by omega, by omega, by omega, by omega, by omega, HV2.out, HP2.out, HW2.out⟩
end Go.Proofs.Ytidokfbjfdkfdaa
