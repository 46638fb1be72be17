/-
  span as landed: Has; Norm, Union, Minus, Both, Within, Meets.
-/
import Derived.Test.YteioefgckigbcaaSnE

import Derived.Test.YteioefgckigbcaaToB

import Derived.BigQuiet

import Derived.IntWalk

namespace Go.Proofs.Yteioefgckigbcaa

open Go.RowKit

open Go.Great

theorem hasV (s : Sn3) (e x : Int) : (validB s && ((s.edge == e) && (decide (s.lo ≤ x) && decide (x < s.hi)))) = hasS s e x := by
  rw [Bool.eq_iff_iff, hasS_iff]
  simp only [Bool.and_eq_true, decide_eq_true_eq, valid_iff, beq_iff_eq]
  unfold okN
  omega

set_option maxRecDepth 100000 in
set_option maxHeartbeats 8000000 in
theorem oix_nl (p : Int → Bool) (l : List Int) (A : Option Addr) (n c : Nat) (w : World) (hs : SlO inC 1 w A n c l) (hbig : n ≤ 1048576)
    (HE : Hid (∀ (x : Int) W, Below w.heap.size w W → Calls Try.prog 64 #[.int .i64 x] W fun e w' => e = .returned (.bool (p x)) ∧ Below W.heap.size W w')) :
    Calls Try.prog 50 #[.slice A n c, .func (.func 64) #[] #[]] w fun e w' => e = .returned (.int .i64 (idxL p l)) ∧ Below w.heap.size w w' := by
  have HN : Hid (l.length = n) := Lib.hid hs.len13
  have HW := Lib.hid hs
  clear hs
  have x0 : (0 : Int) ≤ n := by omega
  obtain ⟨R, hR⟩ : ∃ R, idxL p l = R := ⟨_, rfl⟩
  have HR := Lib.hid hR
  rw [hR]
  clear hR
  go_enter Try.func50, Try.ntmps50
  go_wp2
  go_loopg [8] n (fun kk v wl => ∃ j : Nat, j ≤ n ∧ n - j ≤ kk ∧ v = .int .i64 j ∧ Hid (∀ i x, i < j → l[i]? = some x → p x = false) ∧ Hid (Below w.heap.size w wl))
  case atStart => exact ⟨0, by omega, by omega, rfl, Lib.hid fun i x h => absurd h (by omega), Lib.hid (Below.refl _ _)⟩
  case round =>
    obtain ⟨j, hj, hjk, rfl, HNO, HBL⟩ := hrel
    by_cases hlt : j < n
    · obtain ⟨x, hx⟩ : ∃ x, l[j]? = some x := ⟨_, List.getElem?_eq_getElem (by rw [HN.out]; omega)⟩
      obtain ⟨bk, off, rfl, d0⟩ := (HW.out.under HBL.out).int13 hx
      have HX := Lib.hid hx
      have y0 : (0 : Int) ≤ j := by omega
      have y1 : (j : Int) < n := by omega
      have HC := Lib.hid (HE.out x wr HBL.out)
      clear hx
      generalize hb : p x = b at *
      have HBE := Lib.hid hb
      clear hb
      cases b with
      | true =>
        have HF : Hid (R = j) := Lib.hid (by rw [← HR.out]; exact idx_hit HX.out HBE.out HNO.out)
        go_upto_region 4 with fail
        go_wp2_with fail
        refine HC.out.mono ?_
        rintro e w1 ⟨rfl, hb1⟩
        have HB1 := Lib.hid (HBL.out.trans (hb1.mono HBL.out.size))
        clear hb1 d0 HBE HNO
        go_wp2
        go_ret
        exact ⟨by rw [HF.out]; rfl, HB1.out⟩
      | false =>
        go_upto_region 4 with fail
        go_wp2_with fail
        refine HC.out.mono ?_
        rintro e w1 ⟨rfl, hb1⟩
        have HB1 := Lib.hid (HBL.out.trans (hb1.mono HBL.out.size))
        have HN2 : Hid (∀ i y, i < j + 1 → l[i]? = some y → p y = false) := Lib.hid fun i y hi hy => by
          by_cases h : i = j
          · subst h; rw [HX.out] at hy; cases hy; exact HBE.out
          · exact HNO.out i y (by omega) hy
        clear hb1 d0 HBE HNO
        go_wp2
        go_roundg (gk - 1)
        case measure => omega
        case rel => exact ⟨j + 1, by omega, by omega, by go_num, HN2, HB1⟩
    · have y1 : ¬ (j : Int) < n := by omega
      have HF : Hid (R = -1) := Lib.hid (by rw [← HR.out]; exact idx_miss fun i y hi hy => HNO.out i y (by have := HN.out; omega) hy)
      go_wp2
      go_ret
      exact ⟨by rw [HF.out]; rfl, HBL.out⟩

set_option maxRecDepth 100000 in
set_option maxHeartbeats 8000000 in
theorem oct_nl (p : Int → Bool) (l : List Int) (A : Option Addr) (n c : Nat) (w : World) (hs : SlO inC 1 w A n c l) (hbig : n ≤ 1048576)
    (HE : Hid (∀ (x : Int) W, Below w.heap.size w W → Calls Try.prog 64 #[.int .i64 x] W fun e w' => e = .returned (.bool (p x)) ∧ Below W.heap.size W w')) :
    Calls Try.prog 29 #[.slice A n c, .func (.func 64) #[] #[]] w fun e w' => e = .returned (.bool (l.any p)) ∧ Below w.heap.size w w' := by
  have H := Lib.hid (oix_nl p l A n c w hs hbig HE)
  clear hs HE
  rw [← idx_nonneg]
  generalize idxL p l = R at *
  go_enter Try.func29, Try.ntmps29
  go_wp2_with fail
  refine H.out.mono ?_
  rintro e w1 ⟨rfl, hb1⟩
  have HB1 := Lib.hid hb1
  clear hb1 H
  go_wp2
  go_ret
  exact ⟨rfl, HB1.out⟩

set_option maxRecDepth 100000 in
set_option maxHeartbeats 8000000 in
theorem osn_union (a b : List Sn3) (A B : Option Addr) (n c m d : Nat) (w : World) (ha : SlO snC 3 w A n c a) (hb : SlO snC 3 w B m d b) (_ : n ≤ c) (_ : m ≤ d) (hn : n ≤ 4096) (hm : m ≤ 4096) : Calls Try.prog 44 #[.slice A n c, .slice B m d] w fun r w' => ∃ X x, r = .returned (.slice X (unionL a b).length x) ∧ SlO snC 3 w' X (unionL a b).length x (unionL a b) ∧ (unionL a b).length ≤ x ∧ Below w.heap.size w w' := by
  have H := Lib.hid (oscollect_any 66 (fun x y => x || y) ⟨true, true, true⟩ (fun x y W => oskU x y W) (enters_of Try.func66 (by kernel_rfl) rfl) (by intro x y; cases x <;> cases y <;> decide) a b A B n c m d w ha hb hn hm)
  unfold unionL
  generalize formL a b ⟨true, true, true⟩ = R at *
  clear ha hb hn hm
  go_enter Try.func44, Try.ntmps44
  go_wp2_with fail
  refine H.out.mono ?_
  rintro e_ w1 ⟨X, x, rfl, hs1, hc1, hb1⟩
  have HS1 := Lib.hid hs1; have HC1 := Lib.hid hc1; have HB1 := Lib.hid hb1
  clear hs1 hc1 hb1 H
  go_wp2
  go_ret
  exact ⟨X, x, rfl, HS1.out, HC1.out, HB1.out⟩

set_option maxRecDepth 100000 in
set_option maxHeartbeats 8000000 in
theorem osn_both (a b : List Sn3) (A B : Option Addr) (n c m d : Nat) (w : World) (ha : SlO snC 3 w A n c a) (hb : SlO snC 3 w B m d b) (_ : n ≤ c) (_ : m ≤ d) (hn : n ≤ 4096) (hm : m ≤ 4096) : Calls Try.prog 19 #[.slice A n c, .slice B m d] w fun r w' => ∃ X x, r = .returned (.slice X (bothL a b).length x) ∧ SlO snC 3 w' X (bothL a b).length x (bothL a b) ∧ (bothL a b).length ≤ x ∧ Below w.heap.size w w' := by
  have H := Lib.hid (oscollect_any 38 (fun x y => x && y) ⟨false, false, true⟩ (fun x y W => oskB x y W) (enters_of Try.func38 (by kernel_rfl) rfl) (by intro x y; cases x <;> cases y <;> decide) a b A B n c m d w ha hb hn hm)
  unfold bothL
  generalize formL a b ⟨false, false, true⟩ = R at *
  clear ha hb hn hm
  go_enter Try.func19, Try.ntmps19
  go_wp2_with fail
  refine H.out.mono ?_
  rintro e_ w1 ⟨X, x, rfl, hs1, hc1, hb1⟩
  have HS1 := Lib.hid hs1; have HC1 := Lib.hid hc1; have HB1 := Lib.hid hb1
  clear hs1 hc1 hb1 H
  go_wp2
  go_ret
  exact ⟨X, x, rfl, HS1.out, HC1.out, HB1.out⟩

theorem norm_union (l : List Sn3) : unionL l [] = normL l := norm_uniq (union_normal l []) (norm_normal l) fun e x => by
  rw [union_has, norm_has]
  simp [hasL]
set_option maxRecDepth 100000 in
set_option maxHeartbeats 8000000 in
theorem osn_norm (l : List Sn3) (A : Option Addr) (n c : Nat) (w : World) (hs : SlO snC 3 w A n c l) (hc : n ≤ c) (hn : n ≤ 4096) : Calls Try.prog 23 #[.slice A n c] w fun r w' => ∃ X x, r = .returned (.slice X (normL l).length x) ∧ SlO snC 3 w' X (normL l).length x (normL l) ∧ (normL l).length ≤ x ∧ Below w.heap.size w w' := by
  have H := Lib.hid (osn_union l [] A none n c 0 0 w hs (SlO.nil _ _ _) hc (Nat.le_refl _) hn (by omega))
  rw [norm_union] at H
  generalize normL l = R at *
  clear hs hc hn
  go_enter Try.func23, Try.ntmps23
  go_wp2_with fail
  refine H.out.mono ?_
  rintro e_ w1 ⟨X, x, rfl, hs1, hc1, hb1⟩
  have HS1 := Lib.hid hs1; have HC1 := Lib.hid hc1; have HB1 := Lib.hid hb1
  clear hs1 hc1 hb1 H
  go_wp2
  go_ret
  exact ⟨X, x, rfl, HS1.out, HC1.out, HB1.out⟩

set_option maxRecDepth 100000 in
set_option maxHeartbeats 8000000 in
theorem osn_meets (a b : List Sn3) (A B : Option Addr) (n c m d : Nat) (w : World) (ha : SlO snC 3 w A n c a) (hb : SlO snC 3 w B m d b) (hc : n ≤ c) (hd : m ≤ d) (hn : n ≤ 4096) (hm : m ≤ 4096) : Calls Try.prog 10 #[.slice A n c, .slice B m d] w fun r w' => r = .returned (.bool (meetsL a b)) ∧ Below w.heap.size w w' := by
  have H := Lib.hid (osn_both a b A B n c m d w ha hb hc hd hn hm)
  unfold meetsL
  generalize bothL a b = R at *
  clear ha hb hc hd hn hm
  cases R with
  | nil =>
    rw [List.length_nil] at H
    go_enter Try.func10, Try.ntmps10
    go_wp2_with fail
    refine H.out.mono ?_
    rintro e_ w1 ⟨X, x, rfl, _, _, hb1⟩
    have HB1 := Lib.hid hb1
    clear hb1 H
    go_wp2
    go_ret
    exact ⟨by first | rfl | simp, HB1.out⟩
  | cons s r =>
    rw [List.length_cons] at H
    have y0 : ¬ ((r.length + 1 : Nat) : Int) = 0 := by omega
    have y1 : ((((r.length + 1 : Nat) : Int)) == 0) = false := by simp; omega
    have y2 : (0 : Int) < ((r.length + 1 : Nat) : Int) := by omega
    generalize r.length + 1 = k at *
    go_enter Try.func10, Try.ntmps10
    go_wp2_with fail
    refine H.out.mono ?_
    rintro e_ w1 ⟨X, x, rfl, _, _, hb1⟩
    have HB1 := Lib.hid hb1
    clear hb1 H
    go_wp2
    go_ret
    exact ⟨by first | rfl | (simp; done) | (simp; omega), HB1.out⟩

end Go.Proofs.Yteioefgckigbcaa
