/-
  Package sort's own text: insertionSort_func puts a stretch into the strict order of keys and tags.
-/
import Derived.Test.YtidokfbjfdkfdaaSmDone
namespace Go.Proofs.Ytidokfbjfdkfdaa
open Go.RowKit Go.Sort Go.Lib
open Sm
variable {α : Type} [Inhabited α]

omit [Inhabited α] in
theorem right_at (f : Nat → α) {j m : Nat} (h : j ≤ m) : rightF f j m j = f m := by simp [rightF, h]
omit [Inhabited α] in
theorem right_low (f : Nat → α) {j m t : Nat} (h : t < j) : rightF f j m t = f t := by
  unfold rightF
  rw [if_neg (by omega), if_neg (by omega)]

set_option maxHeartbeats 4000000 in
set_option maxRecDepth 100000 in
theorem ins_any (K : α → Int) (T : α → Nat) (enc : α → Value) (g : Nat) (lb : Array Value) (sf : Nat) (sb : Array Value) (blk off a b : Nat) (d : Array α) (W : World)
    (eg : ∀ args w, (callFunc g args).run Try.prog w = .ok (.enter g args) w) (hless : LessReads Try.prog g lb enc (fun x y => decide (K x < K y)) blk off d.size W)
    (hswap : SwapSwaps Try.prog sf sb enc blk off d.size) (hH : Holds enc W blk off d) (hblk : blk < W.heap.size) (hab : a ≤ b) (hb : b ≤ d.size) (hsz : d.size < 1099511627776)
    (ht : ∀ i j, a ≤ i → i < j → j < b → T (pl d i) < T (pl d j)) :
    Calls Try.prog 61 #[.agg #[.func (.func g) #[] lb, .func (.func sf) #[] sb], .int .i64 a, .int .i64 b] W fun e w' =>
      e = .returned (.tuple #[]) ∧ ∃ d', d'.size = d.size ∧ PermIn a b d d' ∧ Srt K T (pl d') a b ∧ SW enc W blk off d' w' := by
  have HSW := hid hswap
  have hH1 := holds_alloc hH hblk (.cells #[.func (.func g) #[] lb, .func (.func sf) #[] sb] 54)
  have HL := hid (((SW.start hH).alloc (.cells #[.func (.func g) #[] lb, .func (.func sf) #[] sb] 54)).lessReads hless hblk rfl)
  have HH := hid hH
  have HH1 := hid hH1
  have HT := hid ht
  have hblk1 : blk < (W.alloc (.cells #[.func (.func g) #[] lb, .func (.func sf) #[] sb] 54)).heap.size := by simp; omega
  clear hswap hH hH1 hless ht
  go_enter Try.func61, Try.ntmps61
  go_wp2
  go_loopg [6] (b - a) (fun kk vi wr => ∃ (i : Nat) (d' : Array α), vi = .int .i64 i ∧ a < i ∧ (i ≤ b ∨ (i = a + 1 ∧ d' = d)) ∧ b - i ≤ kk ∧ d'.size = d.size ∧ PermIn a i d d' ∧ Srt K T (pl d') a i ∧ SW enc (W.alloc (.cells #[.func (.func g) #[] lb, .func (.func sf) #[] sb] 54)) blk off d' wr)
  case atStart => exact ⟨a + 1, d, by go_num, by omega, .inr ⟨rfl, rfl⟩, by omega, rfl, permIn_refl _ _ _, fun i j h1 h2 h3 => by omega, SW.start HH1.out⟩
  case round =>
    obtain ⟨i, di, rfl, hai, hib, hk, hs, hp, hsr, hw⟩ := hrel
    by_cases hlt : i < b
    · have htg : Tag T (pl di) a i (i + 1) := by
        have q := permIn_all d di a i (fun x => T x < T (pl d i)) (by omega) hp (fun t t1 t2 => HT.out t i t1 t2 hlt)
        intro t u t1 t2 u1 u2
        obtain rfl : u = i := by omega
        rw [perm_pl hp (.inr (Nat.le_refl _))]
        exact q t t1 t2
      have x1 : (i : Int) < b := by omega
      have HP := hid hp; have HSR := hid hsr; have HW := hid hw; have HTG := hid htg
      clear hp hsr hw htg hib
      obtain ⟨w5, h5⟩ : ∃ w5, w5 = wr := ⟨_, rfl⟩
      subst h5
      obtain ⟨gk5, h5⟩ : ∃ gk5, gk5 = gk := ⟨_, rfl⟩
      subst h5
      go_wp2
      go_loopg [7] (i - a) (fun kk vj wr => ∃ (j : Nat) (dj : Array α), vj = .int .i64 j ∧ a ≤ j ∧ j ≤ i ∧ j - a ≤ kk ∧ dj.size = d.size ∧ pl dj = rightF (pl di) j i ∧ (∀ h, j ≤ h → h < i → K (pl di i) < K (pl di h)) ∧ PermIn a (i + 1) di dj ∧ SW enc (W.alloc (.cells #[.func (.func g) #[] lb, .func (.func sf) #[] sb] 54)) blk off dj wr)
      case atStart => exact ⟨i, di, rfl, by omega, by omega, by omega, hs, (right_none _ _).symm, fun h h1 h2 => by omega, permIn_refl _ _ _, HW.out⟩
      case round =>
        obtain ⟨j, dj, rfl, haj, hji, hkj, hsj, hvj, hgt, hpj, hwj⟩ := hrel
        have c0 : wr.cell? ⟨W.heap.size, 0, none⟩ = some (.func (.func g) #[] lb) := sw_far hwj (by omega) (by simp)
        have out : (j = a ∨ ¬ K (pl di i) < K (pl di (j - 1))) → ∀ q, ∃ (i' : Nat) (d' : Array α), Value.int .i64 ((i : Int) + 1) = .int .i64 i' ∧ a < i' ∧ (i' ≤ b ∨ (i' = a + 1 ∧ d' = d)) ∧ b - i' ≤ gk5 - 1 ∧ d'.size = d.size ∧ PermIn a i' d d' ∧ Srt K T (pl d') a i' ∧ SW enc (W.alloc (.cells #[.func (.func g) #[] lb, .func (.func sf) #[] sb] 54)) blk off d' (wr.drewN q) := by
          intro hx q
          refine ⟨i + 1, dj, by go_num, by omega, .inl (by omega), by omega, hsj, ?_, ?_, hwj.drewN q⟩
          · exact permIn_trans _ _ _ a (i + 1) (permIn_mono _ _ a i a (i + 1) (Nat.le_refl _) (by omega) (by omega) HP.out) hpj
          · rw [hvj]
            refine right_srt HSR.out HTG.out haj hji ?_ hgt
            intro h h1 h2
            rcases hx with hx | hx
            · omega
            · have := HSR.out.keys (i := h) (j := j - 1) h1 (by omega) (by omega)
              omega
        by_cases hja : a < j
        · have c1 : ∀ q, (wr.drewN q).cell? ⟨W.heap.size, 1, none⟩ = some (.func (.func sf) #[] sb) := fun q => sw_far (hwj.drewN q) (by omega) (by simp)
          have e1 : pl dj j = pl di i := by rw [hvj, right_at _ hji]
          have e2 : pl dj (j - 1) = pl di (j - 1) := by rw [hvj, right_low _ (by omega)]
          have hc : Calls Try.prog g (#[.int .i64 j, .int .i64 (j - 1 : Nat)] ++ lb) wr fun e w' => e = .returned (.bool (decide (K (pl dj j) < K (pl dj (j - 1))))) ∧ ∃ q, w' = wr.drewN q := hwj.less HL.out (by omega) j (j - 1) (by omega) (by omega)
          rw [show ((j - 1 : Nat) : Int) = (j : Int) - 1 by omega, e1, e2] at hc
          have x2 : (a : Int) < j := by omega
          by_cases hk2 : K (pl di i) < K (pl di (j - 1))
          · rw [decide_eq_true hk2] at hc
            have hcs : ∀ q, (callFunc sf (#[.int .i64 j, .int .i64 ((j : Int) - 1)] ++ sb)).run Try.prog (wr.drewN q) = .ok (.value (.tuple #[])) (((wr.drewN q).setCell ⟨blk, off + j, none⟩ (enc dj[j - 1]!)).setCell ⟨blk, off + (j - 1), none⟩ (enc dj[j]!)) := fun q => by
              have h := HSW.out (wr.drewN q) dj ((hwj.drewN q).holds hblk1 HH1.out (by omega)) (by omega) j (j - 1) (by omega) (by omega)
              rw [show ((j - 1 : Nat) : Int) = (j : Int) - 1 by omega] at h
              exact h
            have hws : ∀ q, SW enc (W.alloc (.cells #[.func (.func g) #[] lb, .func (.func sf) #[] sb] 54)) blk off (swp dj j (j - 1)) (((wr.drewN q).setCell ⟨blk, off + j, none⟩ (enc dj[j - 1]!)).setCell ⟨blk, off + (j - 1), none⟩ (enc dj[j]!)) := fun q => (hwj.drewN q).swap hblk1 j (j - 1) (by omega) (by omega)
            obtain ⟨j1, hj1⟩ : ∃ j1, j = j1 + 1 := ⟨j - 1, by omega⟩
            have hv2 : pl (swp dj j (j - 1)) = rightF (pl di) (j - 1) i := by
              rw [hj1] at hvj ⊢
              exact right_move _ _ _ _ (by omega) (fun t => by rw [pl_swp _ (by omega) (by omega), hvj]; rfl)
            have hp2 := permIn_trans _ _ _ a (i + 1) hpj (swp_permIn dj a (i + 1) j (j - 1) (by omega) (by omega) (by omega) (by omega) (by omega))
            have hg2 : ∀ h, j - 1 ≤ h → h < i → K (pl di i) < K (pl di h) := by
              intro h h1 h2
              by_cases hh : h = j - 1
              · rw [hh]; exact hk2
              · exact hgt h (by omega) h2
            have HC := hid hc; have HCS := hid hcs; have HWS := hid hws; have HV2 := hid hv2; have HP2 := hid hp2; have HG2 := hid hg2
            clear hc hcs hws hv2 hp2 hg2 out hvj hgt hpj hwj e1 e2 hk2 hj1
            go_wp2_with fail
            refine HC.out.mono ?_
            rintro e w' ⟨rfl, q, rfl⟩
            have c2 := c1 q
            go_wp2
            rw [HCS.out, Oper.upon_value]
            go_wp2
            go_roundg (gk - 1)
            case measure => omega
            case rel => exact ⟨j - 1, _, by go_num, by omega, by omega, by omega, by rw [swp_size]; exact hsj, HV2.out, HG2.out, HP2.out, HWS.out q⟩
          · rw [decide_eq_false hk2] at hc
            have HC := hid hc; have OUT := hid (out (.inr hk2))
            clear hc out hvj hgt hpj hwj e1 e2 hk2 c1
            go_wp2_with fail
            refine HC.out.mono ?_
            rintro e w' ⟨rfl, q, rfl⟩
            go_wp2
            go_roundg (gk5 - 1)
            case measure => omega
            case rel => exact OUT.out q
        · have OUT := hid (out (.inl (by omega)) 0)
          clear out hvj hgt hpj hwj
          go_wp2
          go_roundg (gk5 - 1)
          case measure => omega
          case rel => exact OUT.out
    · have hfin : PermIn a b d di ∧ Srt K T (pl di) a b := by
        rcases hib with h | ⟨h, rfl⟩
        · obtain rfl : i = b := by omega
          exact ⟨hp, hsr⟩
        · exact ⟨permIn_refl _ _ _, fun i j h1 h2 h3 => by omega⟩
      have HF := hid hfin; have HW := hid hw
      clear hfin hp hsr hw hib
      go_wp2
      go_end0
      exact ⟨rfl, di, hs, HF.out.1, HF.out.2, sw_of_alloc HH.out hblk HW.out hs⟩
end Go.Proofs.Ytidokfbjfdkfdaa
