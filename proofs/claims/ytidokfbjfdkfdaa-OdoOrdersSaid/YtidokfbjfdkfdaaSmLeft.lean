/-
  Package sort's own text: symMerge_func where one element stands on the left.
-/
import Derived.Test.YtidokfbjfdkfdaaSmRot
namespace Go.Proofs.Ytidokfbjfdkfdaa
open Go.RowKit Go.Sort Go.Lib
open Sm
variable {α : Type} [Inhabited α]

theorem half_wrap (s : Nat) (h : s < 4611686018427387904) : IntKind.u64.wrap (s : Int) = s ∧ IntKind.i64.wrap ((s : Int) / 2) = ((s / 2 : Nat) : Int) := by
  refine ⟨IntWalk.u64_in _ (by omega), ?_⟩
  rw [IntWalk.i64_in _ (by omega)]
  omega

set_option maxHeartbeats 4000000 in
set_option maxRecDepth 100000 in
theorem sym_left (K : α → Int) (T : α → Nat) (enc : α → Value) (g : Nat) (lb : Array Value) (sf : Nat) (sb : Array Value) (blk off a b : Nat) (d : Array α) (W : World)
    (eg : ∀ args w, (callFunc g args).run Try.prog w = .ok (.enter g args) w) (hless : LessReads Try.prog g lb enc (fun x y => decide (K x < K y)) blk off d.size W)
    (hswap : SwapSwaps Try.prog sf sb enc blk off d.size) (hH : Holds enc W blk off d) (hblk : blk < W.heap.size) (hab : a + 1 < b) (hb : b ≤ d.size) (hsz : d.size < 1099511627776)
    (h2 : Srt K T (pl d) (a + 1) b) (ht : Tag T (pl d) a (a + 1) b) :
    Calls Try.prog 62 #[.agg #[.func (.func g) #[] lb, .func (.func sf) #[] sb], .int .i64 a, .int .i64 (a + 1 : Nat), .int .i64 b] W fun e w' =>
      e = .returned (.tuple #[]) ∧ ∃ d', d'.size = d.size ∧ PermIn a b d d' ∧ Srt K T (pl d') a b ∧ SW enc W blk off d' w' := by
  have HSW := hid hswap
  have hH1 := holds_alloc hH hblk (.cells #[.func (.func g) #[] lb, .func (.func sf) #[] sb] 54)
  have HL := hid (((SW.start hH).alloc (.cells #[.func (.func g) #[] lb, .func (.func sf) #[] sb] 54)).lessReads hless hblk rfl)
  have HH := hid hH
  have HH1 := hid hH1
  have HS2 := hid h2
  have HT := hid ht
  have hblk1 : blk < (W.alloc (.cells #[.func (.func g) #[] lb, .func (.func sf) #[] sb] 54)).heap.size := by simp; omega
  have y1 : ((a : Int) + 1 - a) = 1 := by omega
  obtain ⟨m, hm⟩ : ∃ m, a + 1 = m := ⟨_, rfl⟩
  rw [hm] at HS2 HT hab ⊢
  have y0 : (((m : Int) - (a : Int)) == 1) = true := by simp; omega
  clear hswap hH hH1 h2 ht hless y1
  go_enter Try.func62, Try.ntmps62
  go_wp2
  go_loopg [8, 9] (b - m) (fun kk vi vj wr => ∃ i j : Nat, vi = .int .i64 i ∧ vj = .int .i64 j ∧ m ≤ i ∧ i ≤ j ∧ j ≤ b ∧ j - i ≤ kk ∧ (∀ h, m ≤ h → h < i → K (pl d h) < K (pl d a)) ∧ (∀ h, j ≤ h → h < b → ¬ K (pl d h) < K (pl d a)) ∧ SW enc (W.alloc (.cells #[.func (.func g) #[] lb, .func (.func sf) #[] sb] 54)) blk off d wr)
  case atStart => exact ⟨m, b, rfl, rfl, by omega, by omega, by omega, by omega, fun h h1 h2 => by omega, fun h h1 h2 => by omega, SW.start HH1.out⟩
  case round =>
    obtain ⟨i, j, rfl, rfl, hmi, hij, hjb, hk, hlo, hhi, hw⟩ := hrel
    have c0 : wr.cell? ⟨W.heap.size, 0, none⟩ = some (.func (.func g) #[] lb) := sw_far hw (by omega) (by simp)
    by_cases hlt : i < j
    · obtain ⟨h, hh⟩ : ∃ h, (i + j) / 2 = h := ⟨_, rfl⟩
      have hc : Calls Try.prog g (#[.int .i64 h, .int .i64 a] ++ lb) wr fun e w' => e = .returned (.bool (decide (K (pl d h) < K (pl d a)))) ∧ ∃ q, w' = wr.drewN q := hw.less HL.out rfl h a (by omega) (by omega)
      obtain ⟨z1, z2⟩ := half_wrap (i + j) (by omega)
      rw [hh] at z2
      rw [Int.natCast_add] at z1 z2
      have x1 : (i : Int) < j := by omega
      have HW := hid hw; have HLO := hid hlo; have HHI := hid hhi
      clear hw hlo hhi
      by_cases hk2 : K (pl d h) < K (pl d a)
      · rw [decide_eq_true hk2] at hc
        have hlo2 : ∀ t, m ≤ t → t < h + 1 → K (pl d t) < K (pl d a) := by
          intro t t1 t2
          have := HS2.out.keys (i := t) (j := h) t1 (by omega) (by omega)
          omega
        have HC := hid hc; have HLO2 := hid hlo2
        clear hc hlo2 hk2
        go_wp2_with fail
        refine HC.out.mono ?_
        rintro e w' ⟨rfl, q, rfl⟩
        go_wp2
        go_roundg (gk - 1)
        case measure => omega
        case rel => exact ⟨h + 1, j, by go_num, rfl, by omega, by omega, by omega, by omega, HLO2.out, HHI.out, HW.out.drewN q⟩
      · rw [decide_eq_false hk2] at hc
        have hhi2 : ∀ t, h ≤ t → t < b → ¬ K (pl d t) < K (pl d a) := by
          intro t t1 t2
          have := HS2.out.keys (i := h) (j := t) (by omega) t1 t2
          omega
        have HC := hid hc; have HHI2 := hid hhi2
        clear hc hhi2 hk2
        go_wp2_with fail
        refine HC.out.mono ?_
        rintro e w' ⟨rfl, q, rfl⟩
        go_wp2
        go_roundg (gk - 1)
        case measure => omega
        case rel => exact ⟨i, h, rfl, rfl, by omega, by omega, by omega, by omega, HLO.out, HHI2.out, HW.out.drewN q⟩
    · obtain rfl : i = j := by omega
      have hsrt : Srt K T (leftF (pl d) a i) a b := by
        subst hm
        exact left_srt HS2.out HT.out hmi hjb hlo hhi
      have HSRT := hid hsrt; have HW := hid hw
      clear hsrt hlo hhi hw
      obtain ⟨w5, h5⟩ : ∃ w5, w5 = wr := ⟨_, rfl⟩
      subst h5
      obtain ⟨gk5, h5⟩ : ∃ gk5, gk5 = gk := ⟨_, rfl⟩
      subst h5
      go_wp2
      go_loopg [11] (i - 1 - a) (fun kk vk wr => ∃ (k : Nat) (d' : Array α), vk = .int .i64 k ∧ a ≤ k ∧ k + 1 ≤ i ∧ i - 1 - k ≤ kk ∧ d'.size = d.size ∧ pl d' = leftF (pl d) a (k + 1) ∧ PermIn a b d d' ∧ SW enc (W.alloc (.cells #[.func (.func g) #[] lb, .func (.func sf) #[] sb] 54)) blk off d' wr)
      case atStart => exact ⟨a, d, rfl, by omega, by omega, by omega, rfl, (left_none _ _).symm, permIn_refl _ _ _, HW.out⟩
      case round =>
        obtain ⟨k, d', rfl, hak, hki, hkk, hs, hv, hp, hw⟩ := hrel
        have c1 : wr.cell? ⟨W.heap.size, 1, none⟩ = some (.func (.func sf) #[] sb) := sw_far hw (by omega) (by simp)
        by_cases hlt2 : k + 1 < i
        · have hHw : Holds enc wr blk off d' := hw.holds hblk1 HH1.out hs
          have hc := HSW.out wr d' hHw hs k (k + 1) (by omega) (by omega)
          have hw2 := hw.swap hblk1 k (k + 1) (by omega) (by omega)
          have hv2 : pl (swp d' k (k + 1)) = leftF (pl d) a (k + 2) := left_move _ _ _ _ hak (fun t => by rw [pl_swp _ (by omega) (by omega), hv])
          have hp2 := permIn_trans _ _ _ a b hp (swp_permIn d' a b k (k + 1) (by omega) (by omega) (by omega) (by omega) (by omega))
          rw [Int.natCast_add, show ((1 : Nat) : Int) = 1 from rfl] at hc
          have x2 : (k : Int) < (i : Int) - 1 := by omega
          have HW2 := hid hw2; have HV2 := hid hv2; have HP2 := hid hp2
          have HC := hid hc
          clear hw2 hv2 hp2 hHw hw hv hp hc
          go_wp2
          rw [HC.out, Oper.upon_value]
          go_wp2
          go_roundg (gk - 1)
          case measure => omega
          case rel => exact ⟨k + 1, _, by go_num, by omega, by omega, by omega, by rw [swp_size]; exact hs, HV2.out, HP2.out, HW2.out⟩
        · have hki2 : k + 1 = i := by omega
          rw [hki2] at hv
          rw [← hv] at HSRT
          have HW2 := hid hw; have HP := hid hp
          clear hw hv hp
          go_wp2
          (try simp only [Exit.inBlock, Exit.then]); refine bodyPost_ret (results_none rfl _ _ _) rfl ?_
          exact ⟨rfl, d', hs, HP.out, HSRT.out, sw_of_alloc HH.out hblk HW2.out hs⟩
end Go.Proofs.Ytidokfbjfdkfdaa
