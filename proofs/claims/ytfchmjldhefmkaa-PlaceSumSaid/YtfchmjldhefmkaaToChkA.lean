/-
  package topo as landed: joints compared, slices.Contains of joints; checkJoint.
-/
import Derived.Test.YtfchmjldhefmkaaToD

import Derived.Test.YtfchmjldhefmkaaTpRefE

import Derived.BigQuiet

import Derived.IntWalk

namespace Go.Proofs.Ytfchmjldhefmkaa

open Go.RowKit

open Go.Great

theorem run_partE13 (w : World) (xs : Array Value) (i : Nat) : (part 71 xs i).run Try.prog w = .ok (.agg (xs.extract i (i + 2))) w := by
  simp [part, Try.isAgg71, Try.sizeOf71]
set_option maxRecDepth 100000 in
set_option maxHeartbeats 2000000 in
theorem eq_endd13 (d : Nat) (a b : Int × Int) (W : World) : (Op.equalIn (d + 2) 71 (.agg (endA a)) (.agg (endA b))).run Try.prog W = .ok (eqE a b) W := by
  rw [show d + 2 = (d + 1) + 1 from rfl, run_equalIn_struct W (d + 1) 71 _ _ (by kernel_rfl) (by kernel_rfl)]
  simp only [Program.fieldsOf, Try.underlying71]
  unfold eqE endA
  by_cases h0 : a.1 = b.1
  rotate_left
  · refine (run_eqNo13 W (d + 1) (endA a) (endA b) _ _ (.int .i64 a.1) (.int .i64 b.1) (by decide) (run_part1_11 W 3 (endA a) 0 (.int .i64 a.1) (by kernel_rfl) rfl) (run_part1_11 W 3 (endA b) 0 (.int .i64 b.1) (by kernel_rfl) rfl) (by rw [run_equalIn_int W d 3 .i64 .i64 _ _ Try.underlying3]; simp [h0])).trans ?_
    have e : (a.1 == b.1) = false := by simp [h0]
    simp [e]
  refine (run_eqField11 W (d + 1) (endA a) (endA b) _ _ (.int .i64 a.1) (.int .i64 b.1) (by decide) (run_part1_11 W 3 (endA a) 0 (.int .i64 a.1) (by kernel_rfl) rfl) (run_part1_11 W 3 (endA b) 0 (.int .i64 b.1) (by kernel_rfl) rfl) (by rw [run_equalIn_int W d 3 .i64 .i64 _ _ Try.underlying3]; simp [h0])).trans ?_
  by_cases h1 : a.2 = b.2
  rotate_left
  · refine (run_eqNo13 W (d + 1) (endA a) (endA b) _ _ (.int .i64 a.2) (.int .i64 b.2) (by decide) (run_part1_11 W 3 (endA a) 1 (.int .i64 a.2) (by kernel_rfl) rfl) (run_part1_11 W 3 (endA b) 1 (.int .i64 b.2) (by kernel_rfl) rfl) (by rw [run_equalIn_int W d 3 .i64 .i64 _ _ Try.underlying3]; simp [h1])).trans ?_
    have e : (a.2 == b.2) = false := by simp [h1]
    simp [e]
  refine (run_eqField11 W (d + 1) (endA a) (endA b) _ _ (.int .i64 a.2) (.int .i64 b.2) (by decide) (run_part1_11 W 3 (endA a) 1 (.int .i64 a.2) (by kernel_rfl) rfl) (run_part1_11 W 3 (endA b) 1 (.int .i64 b.2) (by kernel_rfl) rfl) (by rw [run_equalIn_int W d 3 .i64 .i64 _ _ Try.underlying3]; simp [h1])).trans ?_
  refine (run_eqDone11 W (d + 1) _ _).trans ?_
  simp [h0, h1]
def eqJ (a b : Jt3) : Bool := eqE a.a b.a && eqE a.b b.b
set_option maxRecDepth 100000 in
set_option maxHeartbeats 2000000 in
theorem eq_jt13 (a b : Jt3) (W : World) : (Op.equalIn 10000 73 (.agg (jtA a)) (.agg (jtA b))).run Try.prog W = .ok (eqJ a b) W := by
  rw [show (10000 : Nat) = 9999 + 1 from rfl, run_equalIn_struct W 9999 73 _ _ (by kernel_rfl) (by kernel_rfl)]
  simp only [Program.fieldsOf, Try.underlying73]
  unfold eqJ
  have p0 : ∀ x : Jt3, (part 71 (jtA x) 0).run Try.prog W = .ok (.agg (endA x.a)) W := fun x => run_partE13 W _ 0
  have p1 : ∀ x : Jt3, (part 71 (jtA x) 2).run Try.prog W = .ok (.agg (endA x.b)) W := fun x => run_partE13 W _ 2
  have q0 := eq_endd13 9997 a.a b.a W
  have q1 := eq_endd13 9997 a.b b.b W
  cases h0 : eqE a.a b.a with
  | false =>
    rw [h0] at q0
    refine (run_eqNo13 W 9999 (jtA a) (jtA b) _ _ _ _ (by decide) (p0 a) (p0 b) q0).trans ?_
    rfl
  | true =>
    rw [h0] at q0
    refine (run_eqField11 W 9999 (jtA a) (jtA b) _ _ _ _ (by decide) (p0 a) (p0 b) q0).trans ?_
    cases h1 : eqE a.b b.b with
    | false =>
      rw [h1] at q1
      refine (run_eqNo13 W 9999 (jtA a) (jtA b) _ _ _ _ (by decide) (p1 a) (p1 b) q1).trans ?_
      rfl
    | true =>
      rw [h1] at q1
      refine (run_eqField11 W 9999 (jtA a) (jtA b) _ _ _ _ (by decide) (p1 a) (p1 b) q1).trans ?_
      exact run_eqDone11 W 9999 _ _
theorem join_eqJ (l : List Jt3) (j : Jt3) : (l.any (eqJ j) || l.any (eqJ ⟨j.b, j.a⟩)) = joinB l j.a j.b := by
  unfold joinB
  rw [Bool.eq_iff_iff]
  simp only [Bool.or_eq_true, List.any_eq_true, eqJ, joinJ, Bool.and_eq_true]
  constructor
  · rintro (⟨y, hy, h1, h2⟩ | ⟨y, hy, h1, h2⟩)
    · exact ⟨y, hy, .inl ⟨by rw [eqE_comm]; exact h1, by rw [eqE_comm]; exact h2⟩⟩
    · exact ⟨y, hy, .inr ⟨by rw [eqE_comm]; exact h1, by rw [eqE_comm]; exact h2⟩⟩
  · rintro ⟨y, hy, (⟨h1, h2⟩ | ⟨h1, h2⟩)⟩
    · exact .inl ⟨y, hy, by rw [eqE_comm]; exact h1, by rw [eqE_comm]; exact h2⟩
    · exact .inr ⟨y, hy, by rw [eqE_comm]; exact h1, by rw [eqE_comm]; exact h2⟩

set_option maxRecDepth 100000 in
set_option maxHeartbeats 8000000 in
theorem oixj_any (l : List Jt3) (v : Jt3) (A : Option Addr) (n c : Nat) (w : World) (hs : SlO jtC 4 w A n c l) (hbig : n ≤ 1048576) :
    Calls Try.prog 84 #[.slice A n c, .agg (jtA v)] w fun e w' => e = .returned (.int .i64 (idxL (eqJ v) l)) ∧ Below w.heap.size w w' := by
  obtain ⟨wa, hwa⟩ : ∃ wa, w.alloc (.cells (jtA v) 73) = wa := ⟨_, rfl⟩
  have hbwa : Below w.heap.size w wa := by rw [← hwa]; exact (Below.refl _ _).alloc (Nat.le_refl _) _
  have h0 : Has wa (w.heap.size) 73 (jtA v) := by rw [← hwa]; exact (Has.made _ _ _)
  have HWA := Lib.hid hwa; have HBWA := Lib.hid hbwa
  have HN : Hid (l.length = n) := Lib.hid hs.1
  have HW := Lib.hid (hs.under hbwa)
  have c0 : wa.cell? ⟨w.heap.size, 0, none⟩ = some (.int .i64 v.a.1) := h0.cell 0
  have c1 : wa.cell? ⟨w.heap.size, 1, none⟩ = some (.int .i64 v.a.2) := h0.cell 1
  have c2 : wa.cell? ⟨w.heap.size, 2, none⟩ = some (.int .i64 v.b.1) := h0.cell 2
  have c3 : wa.cell? ⟨w.heap.size, 3, none⟩ = some (.int .i64 v.b.2) := h0.cell 3
  have HQ := Lib.hid (fun x => eq_jt13 v x)
  clear hs hwa hbwa h0
  have x0 : (0 : Int) ≤ n := by omega
  obtain ⟨R, hR⟩ : ∃ R, idxL (eqJ v) l = R := ⟨_, rfl⟩
  have HR := Lib.hid hR
  rw [hR]
  clear hR
  unfold jtA at *
  go_enter Try.func84, Try.ntmps84
  go_upto_region 1 with fail
  rw [HWA.out]
  clear HWA
  go_wp2
  go_loopg [8] n (fun kk s8 wl => ∃ j q : Nat, j ≤ n ∧ n - j ≤ kk ∧ s8 = .int .i64 j ∧ Hid (∀ i x, i < j → l[i]? = some x → eqJ v x = false) ∧ wl = wa.drewN q)
  case atStart => exact ⟨0, 0, by omega, by omega, rfl, Lib.hid fun i x h => absurd h (by omega), rfl⟩
  case round =>
    obtain ⟨j, q, hj, hjk, rfl, HNO, rfl⟩ := hrel
    by_cases hlt : j < n
    · obtain ⟨x, hx⟩ : ∃ x, l[j]? = some x := ⟨_, List.getElem?_eq_getElem (by rw [HN.out]; omega)⟩
      obtain ⟨bk, off, rfl, d0, d1, d2, d3⟩ := HW.out.joint hx
      have HX := Lib.hid hx
      have y0 : (0 : Int) ≤ j := by omega
      have y1 : (j : Int) < n := by omega
      have q1 := HQ.out x
      clear hx
      generalize hb : eqJ v x = b at *
      have HBE := Lib.hid hb
      clear hb
      go_upto_region 4 with fail
      cases b with
      | true =>
        have HF : Hid (R = j) := Lib.hid (by rw [← HR.out]; exact idx_hit HX.out HBE.out HNO.out)
        go_quiet (fail)
        go_wp2
        go_ret
        exact ⟨by rw [HF.out]; rfl, by first | exact below_draws HBWA.out _ | (rw [World.drewN_drewN]; exact below_draws HBWA.out _)⟩
      | false =>
        have HN2 : Hid (∀ i y, i < j + 1 → l[i]? = some y → eqJ v y = false) := Lib.hid fun i y hi hy => by
          by_cases h : i = j
          · subst h; rw [HX.out] at hy; cases hy; exact HBE.out
          · exact HNO.out i y (by omega) hy
        go_quiet (fail)
        go_wp2
        go_roundg (gk - 1)
        case measure => omega
        case rel => exact ⟨j + 1, _, by omega, by omega, by go_num, HN2, by first | rfl | rw [World.drewN_drewN]⟩
    · have y1 : ¬ (j : Int) < n := by omega
      have HF : Hid (R = -1) := Lib.hid (by rw [← HR.out]; exact idx_miss fun i y hi hy => HNO.out i y (by have := HN.out; omega) hy)
      go_wp2
      go_ret
      exact ⟨by rw [HF.out]; rfl, below_draws HBWA.out _⟩

set_option maxRecDepth 100000 in
set_option maxHeartbeats 8000000 in
theorem octj_any (l : List Jt3) (v : Jt3) (A : Option Addr) (n c : Nat) (w : World) (hs : SlO jtC 4 w A n c l) (hbig : n ≤ 1048576) :
    Calls Try.prog 73 #[.slice A n c, .agg (jtA v)] w fun e w' => e = .returned (.bool (l.any (eqJ v))) ∧ Below w.heap.size w w' := by
  obtain ⟨wa, hwa⟩ : ∃ wa, w.alloc (.cells (jtA v) 73) = wa := ⟨_, rfl⟩
  have hbwa : Below w.heap.size w wa := by rw [← hwa]; exact (Below.refl _ _).alloc (Nat.le_refl _) _
  have h0 : Has wa (w.heap.size) 73 (jtA v) := by rw [← hwa]; exact (Has.made _ _ _)
  have HWA := Lib.hid hwa; have HBWA := Lib.hid hbwa
  have H := Lib.hid (oixj_any l v A n c wa (hs.under hbwa) hbig)
  have HV := Lib.hid h0
  clear hs hwa hbwa h0
  rw [← idx_nonneg]
  generalize idxL (eqJ v) l = R at *
  go_enter Try.func73, Try.ntmps73
  go_upto_region 1 with fail
  rw [HWA.out]
  clear HWA
  go_wp2_with (with_reducible refine wpList_load_row (o := ⟨some 6, _, _, _, _, _⟩) rfl 73 _ rfl (w.heap.size) rfl 73 (jtA v) (0, 0) _ (HV.out).raw11 Try.underlying73 rfl (by kernel_rfl) ?_)
  refine H.out.mono ?_
  rintro e w1 ⟨rfl, hb1⟩
  have HB1 := Lib.hid (HBWA.out.trans (hb1.mono HBWA.out.size))
  clear hb1 H HV HBWA
  go_wp2
  go_ret
  exact ⟨rfl, HB1.out⟩

end Go.Proofs.Ytfchmjldhefmkaa
