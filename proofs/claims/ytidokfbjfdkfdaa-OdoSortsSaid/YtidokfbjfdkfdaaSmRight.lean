/-
  Package sort's own text: symMerge_func where one element stands on the right.
-/
import Derived.Test.YtidokfbjfdkfdaaSmLeft
namespace Go.Proofs.Ytidokfbjfdkfdaa
open Go.RowKit Go.Sort Go.Lib
open Sm
variable {α : Type} [Inhabited α]

set_option maxHeartbeats 4000000 in
set_option maxRecDepth 100000 in
theorem sym_right (K : α → Int) (T : α → Nat) (enc : α → Value) (g : Nat) (lb : Array Value) (sf : Nat) (sb : Array Value) (blk off a m : Nat) (d : Array α) (W : World)
    (eg : ∀ args w, (callFunc g args).run Try.prog w = .ok (.enter g args) w) (hless : LessReads Try.prog g lb enc (fun x y => decide (K x < K y)) blk off d.size W)
    (hswap : SwapSwaps Try.prog sf sb enc blk off d.size) (hH : Holds enc W blk off d) (hblk : blk < W.heap.size) (ham : a + 1 < m) (hb : m + 1 ≤ d.size) (hsz : d.size < 1099511627776)
    (h1 : Srt K T (pl d) a m) (ht : Tag T (pl d) a m (m + 1)) :
    Calls Try.prog 62 #[.agg #[.func (.func g) #[] lb, .func (.func sf) #[] sb], .int .i64 a, .int .i64 m, .int .i64 (m + 1 : Nat)] W fun e w' =>
      e = .returned (.tuple #[]) ∧ ∃ d', d'.size = d.size ∧ PermIn a (m + 1) d d' ∧ Srt K T (pl d') a (m + 1) ∧ SW enc W blk off d' w' := by
  have HSW := hid hswap
  have hH1 := holds_alloc hH hblk (.cells #[.func (.func g) #[] lb, .func (.func sf) #[] sb] 54)
  have HL := hid (((SW.start hH).alloc (.cells #[.func (.func g) #[] lb, .func (.func sf) #[] sb] 54)).lessReads hless hblk rfl)
  have HH := hid hH
  have HH1 := hid hH1
  have HS1 := hid h1
  have HT := hid ht
  have hblk1 : blk < (W.alloc (.cells #[.func (.func g) #[] lb, .func (.func sf) #[] sb] 54)).heap.size := by simp; omega
  obtain ⟨b, hm⟩ : ∃ b, m + 1 = b := ⟨_, rfl⟩
  rw [hm] at HT hb ⊢
  have y0 : (((m : Int) - (a : Int)) == 1) = false := by simp; omega
  have y1 : (((b : Int) - (m : Int)) == 1) = true := by simp; omega
  clear hswap hH hH1 h1 ht hless
  go_enter Try.func62, Try.ntmps62
  go_wp2
  go_loopg [12, 13] (m - a) (fun kk vi vj wr => ∃ i j : Nat, vi = .int .i64 i ∧ vj = .int .i64 j ∧ a ≤ i ∧ i ≤ j ∧ j ≤ m ∧ j - i ≤ kk ∧ (∀ h, a ≤ h → h < i → ¬ K (pl d m) < K (pl d h)) ∧ (∀ h, j ≤ h → h < m → K (pl d m) < K (pl d h)) ∧ SW enc (W.alloc (.cells #[.func (.func g) #[] lb, .func (.func sf) #[] sb] 54)) blk off d wr)
  case atStart => exact ⟨a, m, rfl, rfl, by omega, by omega, by omega, by omega, fun h h1 h2 => by omega, fun h h1 h2 => by omega, SW.start HH1.out⟩
  case round =>
    obtain ⟨i, j, rfl, rfl, hmi, hij, hjb, hk, hlo, hhi, hw⟩ := hrel
    have c0 : wr.cell? ⟨W.heap.size, 0, none⟩ = some (.func (.func g) #[] lb) := sw_far hw (by omega) (by simp)
    by_cases hlt : i < j
    · obtain ⟨h, hh⟩ : ∃ h, (i + j) / 2 = h := ⟨_, rfl⟩
      have hc : Calls Try.prog g (#[.int .i64 m, .int .i64 h] ++ lb) wr fun e w' => e = .returned (.bool (decide (K (pl d m) < K (pl d h)))) ∧ ∃ q, w' = wr.drewN q := hw.less HL.out rfl m h (by omega) (by omega)
      obtain ⟨z1, z2⟩ := half_wrap (i + j) (by omega)
      rw [hh] at z2
      rw [Int.natCast_add] at z1 z2
      have x1 : (i : Int) < j := by omega
      have HW := hid hw; have HLO := hid hlo; have HHI := hid hhi
      clear hw hlo hhi
      by_cases hk2 : K (pl d m) < K (pl d h)
      · rw [decide_eq_true hk2] at hc
        have hhi2 : ∀ t, h ≤ t → t < m → K (pl d m) < K (pl d t) := by
          intro t t1 t2
          have := HS1.out.keys (i := h) (j := t) (by omega) t1 t2
          omega
        have HC := hid hc; have HHI2 := hid hhi2
        clear hc hhi2 hk2
        go_wp2_with fail
        refine HC.out.mono ?_
        rintro e w' ⟨rfl, q, rfl⟩
        go_wp2
        go_roundg (gk - 1)
        case measure => omega
        case rel => exact ⟨i, h, rfl, rfl, by omega, by omega, by omega, by omega, HLO.out, HHI2.out, HW.out.drewN q⟩
      · rw [decide_eq_false hk2] at hc
        have hlo2 : ∀ t, a ≤ t → t < h + 1 → ¬ K (pl d m) < K (pl d t) := by
          intro t t1 t2
          have := HS1.out.keys (i := t) (j := h) t1 (by omega) (by omega)
          omega
        have HC := hid hc; have HLO2 := hid hlo2
        clear hc hlo2 hk2
        go_wp2_with fail
        refine HC.out.mono ?_
        rintro e w' ⟨rfl, q, rfl⟩
        go_wp2
        go_roundg (gk - 1)
        case measure => omega
        case rel => exact ⟨h + 1, j, by go_num, rfl, by omega, by omega, by omega, by omega, HLO2.out, HHI.out, HW.out.drewN q⟩
    · obtain rfl : i = j := by omega
      have hsrt : Srt K T (rightF (pl d) i m) a b := by
        subst hm
        exact right_srt HS1.out HT.out hmi hjb hlo hhi
      have HSRT := hid hsrt; have HW := hid hw
      clear hsrt hlo hhi hw
      obtain ⟨w5, h5⟩ : ∃ w5, w5 = wr := ⟨_, rfl⟩
      subst h5
      obtain ⟨gk5, h5⟩ : ∃ gk5, gk5 = gk := ⟨_, rfl⟩
      subst h5
      go_wp2
      go_loopg [15] (m - i) (fun kk vk wr => ∃ (k : Nat) (d' : Array α), vk = .int .i64 k ∧ i ≤ k ∧ k ≤ m ∧ k - i ≤ kk ∧ d'.size = d.size ∧ pl d' = rightF (pl d) k m ∧ PermIn a b d d' ∧ SW enc (W.alloc (.cells #[.func (.func g) #[] lb, .func (.func sf) #[] sb] 54)) blk off d' wr)
      case atStart => exact ⟨m, d, rfl, by omega, by omega, by omega, rfl, (right_none _ _).symm, permIn_refl _ _ _, HW.out⟩
      case round =>
        obtain ⟨k, d', rfl, hak, hki, hkk, hs, hv, hp, hw⟩ := hrel
        have c1 : wr.cell? ⟨W.heap.size, 1, none⟩ = some (.func (.func sf) #[] sb) := sw_far hw (by omega) (by simp)
        by_cases hlt2 : i < k
        · have hHw : Holds enc wr blk off d' := hw.holds hblk1 HH1.out hs
          have hc := HSW.out wr d' hHw hs k (k - 1) (by omega) (by omega)
          have hw2 := hw.swap hblk1 k (k - 1) (by omega) (by omega)
          obtain ⟨k1, hk1⟩ : ∃ k1, k = k1 + 1 := ⟨k - 1, by omega⟩
          have hv2 : pl (swp d' k (k - 1)) = rightF (pl d) (k - 1) m := by
            rw [hk1] at hv ⊢
            exact right_move _ _ _ _ (by omega) (fun t => by rw [pl_swp _ (by omega) (by omega), hv]; rfl)
          have hp2 := permIn_trans _ _ _ a b hp (swp_permIn d' a b k (k - 1) (by omega) (by omega) (by omega) (by omega) (by omega))
          rw [show ((k - 1 : Nat) : Int) = (k : Int) - 1 by omega] at hc
          have x2 : (i : Int) < (k : Int) := by omega
          have HW2 := hid hw2; have HV2 := hid hv2; have HP2 := hid hp2
          have HC := hid hc
          clear hw2 hv2 hp2 hHw hw hv hp hc hk1
          go_wp2
          rw [HC.out, Oper.upon_value]
          go_wp2
          go_roundg (gk - 1)
          case measure => omega
          case rel => exact ⟨k - 1, _, by go_num, by omega, by omega, by omega, by rw [swp_size]; exact hs, HV2.out, HP2.out, HW2.out⟩
        · have hki2 : k = i := by omega
          subst hki2
          rw [← hv] at HSRT
          have HW2 := hid hw; have HP := hid hp
          clear hw hv hp
          go_wp2
          (try simp only [Exit.inBlock, Exit.then]); refine bodyPost_ret (results_none rfl _ _ _) rfl ?_
          exact ⟨rfl, d', hs, HP.out, HSRT.out, sw_of_alloc HH.out hblk HW2.out hs⟩
end Go.Proofs.Ytidokfbjfdkfdaa
