/-
  package topo as landed: slices.Clone of steps; Bal, Route; isTooLong, repeatsEdge, haveBals.
-/
import Derived.Test.YteioefgckigbcaaToB

import Derived.Test.YteioefgckigbcaaTpRefC

namespace Go.Proofs.Yteioefgckigbcaa

open Go.RowKit

open Go.Great

theorem info_step13 : (Try.prog.info? 75).map (fun i => (i.zero, i.size, i.bytes)) = some (some (.agg #[.int .i64 0, .bool false]), 2, 16) := by kernel_rfl
theorem idx_find {α : Type} (p : α → Bool) (l : List α) : (idxL p l = -1 ∧ l.find? p = none) ∨ ∃ (j : Nat) (x : α), l[j]? = some x ∧ idxL p l = j ∧ l.find? p = some x := by
  unfold idxL
  rcases idxA_spec p l 0 with ⟨h1, h2⟩ | ⟨j, x, h1, h2, h3, h4⟩
  · exact .inl ⟨h1, find_none13 fun m y _ hy => h2 m y hy⟩
  · exact .inr ⟨j, x, h1, by rw [h4]; congr 1; omega, find_at13 h1 h2 h3⟩

set_option maxRecDepth 100000 in
set_option maxHeartbeats 8000000 in
theorem oclones_any (A : Option Addr) (n c : Nat) (vs : List Value) (w : World) (hs : Sl w 2 A n c vs) (h1 : ∀ u ∈ vs, u.oneCell' = true) (hn : n ≤ 100000) :
    Calls Try.prog 58 #[.slice A n c] w fun e w' => ∃ A' c', e = .returned (.slice A' n c') ∧ Hid (w'.ownsRow w.heap.size 75 2 (.slice A' n c') n vs) ∧ Hid (Below w.heap.size w w') := by
  have H1 := Lib.hid h1
  clear h1
  cases hA : A with
  | none =>
    subst hA
    obtain ⟨rfl, rfl⟩ := hs.2.1 rfl
    have e0 : vs = [] := List.eq_nil_of_length_eq_zero (by simpa using hs.1)
    subst e0
    have HO0 : Hid (w.ownsRow w.heap.size 75 2 (.slice none 0 0) 0 []) := Lib.hid (World.ownsRow_nil w w.heap.size 75 2)
    have q1 := fun w : World => Lib.run_eql_slice_nil (P := Try.prog) w 59 75 none 0 0 0 0 Try.underlying59
    simp only [Option.isNone] at q1
    clear hs
    go_enter Try.func58, Try.ntmps58
    go_wp2
    go_ret
    exact ⟨none, 0, rfl, HO0, Lib.hid (Below.refl _ _)⟩
  | some ad =>
    subst hA
    have HSL := Lib.hid (hs.beside (.cells #[] 75))
    have HO := Lib.hid (World.ownsRow_lit (base := w.heap.size) (e := 75) (size := 2) w #[] 0 (Nat.le_refl _) (by unfold maxLen; omega) rfl)
    have HB : Hid (0 + n ≤ maxLen ∧ (0 + n) * 16 ≤ 140737488355328 ∧ w.heap.size ≤ (w.alloc (.cells #[] 75)).heap.size) := Lib.hid ⟨by unfold maxLen; omega, by omega, by simp⟩
    have HBL : Hid (Below w.heap.size w (w.alloc (.cells #[] 75))) := Lib.hid ((Below.refl _ _).alloc (Nat.le_refl _) _)
    have q1 := fun w : World => Lib.run_eql_slice_nil (P := Try.prog) w 59 75 (some ad) n c 0 0 Try.underlying59
    simp only [Option.isNone] at q1
    clear hs
    go_enter Try.func58, Try.ntmps58
    go_wp2_with (with_reducible refine wpList_pour (o := ⟨some 7, _, _, _, _, _⟩) rfl (.tmp 5) (.tmp 6) 59 rfl w.heap.size 75 (.agg #[.int .i64 0, .bool false]) 2 16 Try.underlying59 info_step13 ?hz (by decide) (some ⟨w.heap.size, 0, none⟩) 0 0 [] ?hs HO (some ad) n c vs ?hx HSL H1 HB ?next)
    all_goals try rfl
    case next =>
      intro A4 c4 w4 ho4 hg4
      have HO4 : Hid (w4.ownsRow w.heap.size 75 2 (.slice A4 n c4) n vs) := Lib.hid (by simpa using ho4.out)
      clear ho4
      go_wp2
      go_ret
      exact ⟨A4, c4, rfl, HO4, Lib.hid (below_own HBL.out HB.out.2.2 HO.out (Nat.le_refl _) rfl hg4.out)⟩

set_option maxRecDepth 100000 in
set_option maxHeartbeats 8000000 in
theorem otlong_any (t : Tp3) (a : TpA) (w : World) :
    Calls Try.prog 28 #[.agg (tpC t a)] w fun e w' => e = .returned (.bool (longB t)) ∧ Below w.heap.size w w' := by
  obtain ⟨wa, hwa⟩ : ∃ wa, w.alloc (.cells (tpC t a) 27) = wa := ⟨_, rfl⟩
  have hbwa : Below w.heap.size w wa := by rw [← hwa]; exact (Below.refl _ _).alloc (Nat.le_refl _) _
  have h0 : Has wa (w.heap.size) 27 (tpC t a) := by rw [← hwa]; exact (Has.made _ _ _)
  have HWA := Lib.hid hwa; have HBWA := Lib.hid hbwa
  have c0 : wa.cell? ⟨w.heap.size, 0, none⟩ = some (.slice a.ae t.edges.length a.ce) := (h0).cell 0
  have c1 : wa.cell? ⟨w.heap.size, 1, none⟩ = some (.slice a.aj t.joints.length a.cj) := (h0).cell 1
  have c2 : wa.cell? ⟨w.heap.size, 2, none⟩ = some (.slice a.ab t.bals.length a.cb) := (h0).cell 2
  have c3 : wa.cell? ⟨w.heap.size, 3, none⟩ = some (.slice a.ar t.routes.length a.cr) := (h0).cell 3
  unfold longB
  clear hwa hbwa h0
  unfold tpC at *
  obtain ⟨m0, hm0⟩ : ∃ m, t.edges.length = m := ⟨_, rfl⟩
  obtain ⟨m1, hm1⟩ : ∃ m, t.joints.length = m := ⟨_, rfl⟩
  obtain ⟨m2, hm2⟩ : ∃ m, t.bals.length = m := ⟨_, rfl⟩
  obtain ⟨m3, hm3⟩ : ∃ m, t.routes.length = m := ⟨_, rfl⟩
  rw [hm0, hm1, hm2, hm3] at HWA
  rw [hm0] at c0
  rw [hm1] at c1
  rw [hm2] at c2
  rw [hm3] at c3
  rw [hm0, hm1, hm2, hm3]
  clear hm0 hm1 hm2 hm3
  by_cases h0 : 40 < m0
  · rw [decide_eq_true h0, Bool.true_or]
    have g0 : (m0 : Int) > 40 := by omega
    go_enter Try.func28, Try.ntmps28
    go_upto_region 1 with fail
    rw [HWA.out]
    clear HWA
    go_wp2
    go_ret
    exact ⟨rfl, HBWA.out⟩
  · rw [decide_eq_false h0, Bool.false_or]
    by_cases h1 : 80 < m1
    · rw [decide_eq_true h1, Bool.true_or]
      have g0 : ¬ (m0 : Int) > 40 := by omega
      have g1 : (m1 : Int) > 80 := by omega
      go_enter Try.func28, Try.ntmps28
      go_upto_region 1 with fail
      rw [HWA.out]
      clear HWA
      go_wp2
      go_ret
      exact ⟨rfl, HBWA.out⟩
    · rw [decide_eq_false h1, Bool.false_or]
      by_cases h2 : 80 < m2
      · rw [decide_eq_true h2, Bool.true_or]
        have g0 : ¬ (m0 : Int) > 40 := by omega
        have g1 : ¬ (m1 : Int) > 80 := by omega
        have g2 : (m2 : Int) > 80 := by omega
        go_enter Try.func28, Try.ntmps28
        go_upto_region 1 with fail
        rw [HWA.out]
        clear HWA
        go_wp2
        go_ret
        exact ⟨rfl, HBWA.out⟩
      · rw [decide_eq_false h2, Bool.false_or]
        by_cases h3 : 30 < m3
        · rw [decide_eq_true h3]
          have g0 : ¬ (m0 : Int) > 40 := by omega
          have g1 : ¬ (m1 : Int) > 80 := by omega
          have g2 : ¬ (m2 : Int) > 80 := by omega
          have g3 : (m3 : Int) > 30 := by omega
          go_enter Try.func28, Try.ntmps28
          go_upto_region 1 with fail
          rw [HWA.out]
          clear HWA
          go_wp2
          go_ret
          exact ⟨rfl, HBWA.out⟩
        · rw [decide_eq_false h3]
          have g0 : ¬ (m0 : Int) > 40 := by omega
          have g1 : ¬ (m1 : Int) > 80 := by omega
          have g2 : ¬ (m2 : Int) > 80 := by omega
          have g3 : ¬ (m3 : Int) > 30 := by omega
          go_enter Try.func28, Try.ntmps28
          go_upto_region 1 with fail
          rw [HWA.out]
          clear HWA
          go_wp2
          go_ret
          exact ⟨rfl, HBWA.out⟩

end Go.Proofs.Yteioefgckigbcaa
