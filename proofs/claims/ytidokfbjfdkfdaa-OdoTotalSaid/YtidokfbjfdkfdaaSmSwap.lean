/-
  Package sort's own text: swapRange_func, over whatever row of one-cell elements.
-/
import Derived.Test.YtidokfbjfdkfdaaSmPure
import Derived.Shelf.GgSortMore.Stable
import Derived.Test.YtidokfbjfdkfdaaMem
import Derived.Lib.Hide
import Derived.Deep.LoopGhost
namespace Go.Proofs.Ytidokfbjfdkfdaa
open Go.RowKit Go.Sort Go.Lib
open Sm
variable {α : Type} [Inhabited α]

theorem sw_far {enc : α → Value} {w0 W : World} {blk off : Nat} {dk : Array α} (h : SW enc w0 blk off dk W) {b k : Nat} {v : Value} (hb : b ≠ blk) (hc : w0.cell? ⟨b, k, none⟩ = some v) : W.cell? ⟨b, k, none⟩ = some v := by
  obtain ⟨n, os, rfl⟩ := h
  have hlt : b < w0.heap.size := by
    rcases Nat.lt_or_ge b w0.heap.size with h1 | h1
    · exact h1
    · have hn : w0.heap[b]? = none := Array.getElem?_eq_none h1
      simp [World.cell?, hn] at hc
  have e := cell?_putRow_other enc (Sort.ahead w0 n) blk off dk ⟨b, k, none⟩ (Or.inl hb)
  have e2 : (putRow enc (Sort.ahead w0 n) blk off dk).cell? ⟨b, k, none⟩ = some v := by rw [e]; exact hc
  have hs : b < (putRow enc (Sort.ahead w0 n) blk off dk).heap.size := by rw [size_putRow]; exact hlt
  unfold sortWorld
  have e3 : (grow (putRow enc (Sort.ahead w0 n) blk off dk) os).heap[b]? = (putRow enc (Sort.ahead w0 n) blk off dk).heap[b]? := by
    show ((putRow enc (Sort.ahead w0 n) blk off dk).heap ++ os)[b]? = _
    rw [Array.getElem?_append_left hs]
  simp only [World.cell?] at e2 ⊢
  rw [e3]; exact e2
theorem sw_onto {enc : α → Value} {w0 W W' : World} {blk off : Nat} {dk dk' : Array α} (h : SW enc w0 blk off dk W) (hblk : blk < w0.heap.size) (h' : SW enc W blk off dk' W') (hs : dk'.size = dk.size) : SW enc w0 blk off dk' W' := by
  obtain ⟨n, os, rfl⟩ := h'
  exact h.on hblk n dk' os hs
theorem sw_of_alloc {enc : α → Value} {W W' : World} {blk off : Nat} {d d' : Array α} {o : Obj} (hH : Holds enc W blk off d) (hblk : blk < W.heap.size) (h : SW enc (W.alloc o) blk off d' W') (hs : d'.size = d.size) : SW enc W blk off d' W' :=
  sw_onto ((SW.start hH).alloc o) hblk h hs
theorem holds_alloc {enc : α → Value} {W : World} {blk off : Nat} {d : Array α} (hH : Holds enc W blk off d) (hblk : blk < W.heap.size) (o : Obj) : Holds enc (W.alloc o) blk off d := by
  rw [alloc_eq_grow]; exact holds_grow enc W _ blk off d hblk hH

/-- A row's places. -/
def pl (d : Array α) : Nat → α := fun t => d[t]!
theorem pl_swp (d : Array α) {i j : Nat} (hi : i < d.size) (hj : j < d.size) (t : Nat) : pl (swp d i j) t = if t = j then pl d i else if t = i then pl d j else pl d t := swp_get d hi hj t

set_option maxHeartbeats 2000000 in
set_option maxRecDepth 100000 in
theorem swapRange_any (enc : α → Value) (g : Nat) (lb : Array Value) (sf : Nat) (sb : Array Value) (blk off a b n : Nat) (d : Array α) (W : World)
    (hswap : SwapSwaps Try.prog sf sb enc blk off d.size) (hH : Holds enc W blk off d) (hblk : blk < W.heap.size) (hab : a + n ≤ b) (hb : b + n ≤ d.size) (hsz : d.size < 1099511627776) :
    Calls Try.prog 70 #[.agg #[.func (.func g) #[] lb, .func (.func sf) #[] sb], .int .i64 a, .int .i64 b, .int .i64 n] W fun e w' =>
      e = .returned (.tuple #[]) ∧ ∃ d', d'.size = d.size ∧ pl d' = swF (pl d) a b n ∧ PermIn a (b + n) d d' ∧ SW enc W blk off d' w' := by
  have HSW := hid hswap
  have hH1 := holds_alloc hH hblk (.cells #[.func (.func g) #[] lb, .func (.func sf) #[] sb] 54)
  have HH := hid hH
  have HH1 := hid hH1
  clear hswap hH hH1
  go_enter Try.func70, Try.ntmps70
  go_wp2
  go_loopg [8] n (fun kk vi wr => ∃ (i : Nat) (d' : Array α), vi = .int .i64 i ∧ i ≤ n ∧ n - i ≤ kk ∧ d'.size = d.size ∧ pl d' = swF (pl d) a b i ∧ PermIn a (b + n) d d' ∧ SW enc (W.alloc (.cells #[.func (.func g) #[] lb, .func (.func sf) #[] sb] 54)) blk off d' wr)
  case atStart => exact ⟨0, d, rfl, by omega, by omega, rfl, (sw_none _ _ _).symm, permIn_refl _ _ _, SW.start HH1.out⟩
  case round =>
    obtain ⟨i, d', rfl, hi, hik, hs, hv, hp, hw⟩ := hrel
    have c1 : wr.cell? ⟨W.heap.size, 1, none⟩ = some (.func (.func sf) #[] sb) := sw_far hw (by omega) (by simp)
    by_cases hlt : i < n
    · have hHw : Holds enc wr blk off d' := hw.holds (by simp; omega) HH1.out hs
      have hc := HSW.out wr d' hHw hs (a + i) (b + i) (by omega) (by omega)
      have hw2 := hw.swap (by simp; omega) (a + i) (b + i) (by omega) (by omega)
      have hv2 : pl (swp d' (a + i) (b + i)) = swF (pl d) a b (i + 1) := sw_step _ _ _ _ _ (by omega) (fun t => by rw [pl_swp _ (by omega) (by omega), hv])
      have hp2 := permIn_trans _ _ _ a (b + n) hp (swp_permIn d' a (b + n) (a + i) (b + i) (by omega) (by omega) (by omega) (by omega) (by omega))
      rw [Int.natCast_add, Int.natCast_add] at hc
      have x1 : (i : Int) < n := by omega
      have HW2 := hid hw2; have HV2 := hid hv2; have HP2 := hid hp2
      have HC := hid hc
      clear hw2 hv2 hp2 hHw hw hv hp hc
      go_wp2
      skip
      rw [HC.out, Oper.upon_value]
      go_wp2
      go_roundg (gk - 1)
      case measure => omega
      case rel => exact ⟨i + 1, _, by go_num, by omega, by omega, by rw [swp_size]; exact hs, HV2.out, HP2.out, HW2.out⟩
    · obtain rfl : i = n := by omega
      have HW := hid hw; have HV := hid hv; have HP := hid hp
      clear hw hv hp
      go_wp2
      go_end0
      exact ⟨rfl, d', hs, HV.out, HP.out, sw_of_alloc HH.out hblk HW.out hs⟩
end Go.Proofs.Ytidokfbjfdkfdaa
