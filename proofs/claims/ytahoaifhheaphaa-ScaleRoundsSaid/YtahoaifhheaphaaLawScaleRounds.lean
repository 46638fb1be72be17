/-
  ScaleRounds answers true, and nothing that was there has turned.
-/
import Derived.Test.YtahoaifhheaphaaLawAwake03
namespace Go.Proofs.Ytahoaifhheaphaa
open Go.RowKit

theorem best_facts (dm s : Int) (h0 : unitOf s ≠ 0) : ((scaledOf dm s true).2 ≠ 0 → bestOf dm ≠ s) ∧ ((scaledOf dm s true).2 = 0 → 0 ≤ bestOf dm ∧ bestOf dm ≤ s) := by
  have hs : s = 0 ∨ s = 1 ∨ s = 2 := by
    by_cases k0 : s = 0
    · omega
    by_cases k1 : s = 1
    · omega
    by_cases k2 : s = 2
    · omega
    · exact absurd (by simp [unitOf, k0, k1, k2]) h0
  rw [bestOf]
  constructor
  · intro h
    rcases hs with rfl | rfl | rfl
    · rw [if_neg h]; repeat' split
      all_goals omega
    · rw [if_neg h]; repeat' split
      all_goals omega
    · rw [if_neg h]; repeat' split
      all_goals omega
  · intro h
    rcases hs with rfl | rfl | rfl
    · rw [if_pos h]; omega
    · rw [if_pos h]; repeat' split
      all_goals omega
    · rw [if_pos h]; repeat' split
      all_goals omega

/-- What scaling down and up come to. -/
theorem rounds_cases (dm s : Int) (h0 : unitOf s ≠ 0) :
    (scaledOf dm s false = (0, 7) ∧ scaledOf dm s true = (0, 7) ∧ bestOf dm ≠ s) ∨ (∃ a, scaledOf dm s false = (a, 0) ∧ scaledOf dm s true = (0, 7) ∧ bestOf dm ≠ s) ∨
    (∃ a b, scaledOf dm s false = (a, 0) ∧ scaledOf dm s true = (b, 0) ∧ dmOf a s = (a * unitOf s, 0) ∧ dmOf b s = (b * unitOf s, 0) ∧ a * unitOf s ≤ dm ∧ dm - a * unitOf s < unitOf s ∧ dm ≤ b * unitOf s ∧ b * unitOf s - dm < unitOf s ∧
      0 ≤ a * unitOf s ∧ b * unitOf s ≤ 3276600 ∧ 0 ≤ dm ∧ dm ≤ 1099511627776 ∧ 0 ≤ bestOf dm ∧ bestOf dm ≤ s) := by
  obtain ⟨hb1, hb2⟩ := best_facts dm s h0
  generalize bestOf dm = B at *
  have hu := unit_cases s
  simp only [scaledOf, dmOf] at *
  rw [if_neg h0] at *
  simp only [if_neg h0]
  generalize unitOf s = u at *
  by_cases h1 : dm < 0 ∨ 1099511627776 < dm
  · rw [if_pos h1] at hb1
    exact .inl ⟨by rw [if_pos h1], by rw [if_pos h1], hb1 (by decide)⟩
  · rw [if_neg h1] at *
    simp only [if_neg h1]
    have hd : wholeOf dm u false = dm / u := by simp [wholeOf]
    have hup : wholeOf dm u true = dm / u ∧ dm % u = 0 ∨ wholeOf dm u true = dm / u + 1 ∧ dm % u ≠ 0 := by
      rw [wholeOf]
      by_cases hr : dm % u = 0
      · exact .inl ⟨by simp [hr], hr⟩
      · exact .inr ⟨by simp [hr], hr⟩
    rw [hd]
    generalize wholeOf dm u true = b at *
    obtain ⟨q, hq⟩ : ∃ q, dm / u = q := ⟨_, rfl⟩
    rw [hq] at hup ⊢
    have hqb : q ≤ b := by omega
    by_cases hb : 32766 < b
    · rw [if_pos hb] at *
      by_cases ha : 32766 < q
      · exact .inl ⟨by rw [if_pos ha], rfl, hb1 (by decide)⟩
      · exact .inr (.inl ⟨q, by rw [if_neg ha], rfl, hb1 (by decide)⟩)
    · rw [if_neg hb] at *
      have ha : ¬ 32766 < q := by omega
      have hq0 : 0 ≤ q := by rcases hu with rfl | rfl | rfl | rfl <;> omega
      refine .inr (.inr ⟨q, b, by rw [if_neg ha], rfl, by rw [if_neg (by omega)], by rw [if_neg (by omega)], ?_⟩)
      have hB := hb2 rfl
      clear hb1 hb2
      rcases hu with rfl | rfl | rfl | rfl <;> omega

set_option maxHeartbeats 1000000 in
theorem scaleRounds_walk (dm s : Int) (w : World) (wdm : (Lit.int .i64 dm).wf = true) (ws : (Lit.int .i64 s).wf = true) :
    Calls Try.prog 7 #[.int .i64 dm, .int .i64 s] w fun e w' => e = .returned (.bool true) ∧ Below w.heap.size w w' := by
  clear wdm ws
  have c1 := scaled_any dm s false w
  have c2 := scaled_any dm s true w
  have c3 := unit_any s w
  by_cases h0 : unitOf s = 0
  · rw [show scaledOf dm s false = (0, 1) by rw [scaledOf, if_pos h0], pair] at c1
    rw [show scaledOf dm s true = (0, 1) by rw [scaledOf, if_pos h0], pair] at c2
    rw [h0] at c3
    have C1 := Lib.hid c1; have C2 := Lib.hid c2; have C3 := Lib.hid c3; clear c1 c2 c3 h0
    go_enter Try.func7, Try.ntmps7
    go_wp2_with fail
    refine (awake03_any _).mono ?_
    rintro e w' ⟨rfl, rfl⟩
    go_wp2_with fail
    refine (C1.out).mono ?_
    rintro e w' ⟨rfl, rfl⟩
    go_wp2_with fail
    refine (C2.out).mono ?_
    rintro e w' ⟨rfl, rfl⟩
    go_wp2_with fail
    refine (C3.out).mono ?_
    rintro e w' ⟨rfl, rfl⟩
    go_wp2
    go_ret
    exact ⟨rfl, Below.refl _ _⟩
  · have c4 := best_any dm w
    rcases rounds_cases dm s h0 with ⟨e1, e2, hB⟩ | ⟨a, e1, e2, hB⟩ | ⟨a, b, e1, e2, e3, e4, k1, k2, k3, k4, k5, k6, k7, k8, k9, k10⟩
    · rw [e1, pair] at c1
      rw [e2, pair] at c2
      generalize unitOf s = u at *
      generalize bestOf dm = B at *
      have hB1 : (B != s) = true := by simp [hB]
      have C1 := Lib.hid c1; have C2 := Lib.hid c2; have C3 := Lib.hid c3; have C4 := Lib.hid c4; clear c1 c2 c3 c4 e1 e2
      go_enter Try.func7, Try.ntmps7
      go_wp2_with fail
      refine (awake03_any _).mono ?_
      rintro e w' ⟨rfl, rfl⟩
      go_wp2_with fail
      refine (C1.out).mono ?_
      rintro e w' ⟨rfl, rfl⟩
      go_wp2_with fail
      refine (C2.out).mono ?_
      rintro e w' ⟨rfl, rfl⟩
      go_wp2_with fail
      refine (C3.out).mono ?_
      rintro e w' ⟨rfl, rfl⟩
      go_wp2_with fail
      refine (C4.out).mono ?_
      rintro e w' ⟨rfl, rfl⟩
      go_wp2
      go_ret
      exact ⟨rfl, Below.refl _ _⟩
    · rw [e1, pair] at c1
      rw [e2, pair] at c2
      generalize unitOf s = u at *
      generalize bestOf dm = B at *
      have hB1 : (B != s) = true := by simp [hB]
      have C1 := Lib.hid c1; have C2 := Lib.hid c2; have C3 := Lib.hid c3; have C4 := Lib.hid c4; clear c1 c2 c3 c4 e1 e2
      go_enter Try.func7, Try.ntmps7
      go_wp2_with fail
      refine (awake03_any _).mono ?_
      rintro e w' ⟨rfl, rfl⟩
      go_wp2_with fail
      refine (C1.out).mono ?_
      rintro e w' ⟨rfl, rfl⟩
      go_wp2_with fail
      refine (C2.out).mono ?_
      rintro e w' ⟨rfl, rfl⟩
      go_wp2_with fail
      refine (C3.out).mono ?_
      rintro e w' ⟨rfl, rfl⟩
      go_wp2_with fail
      refine (C4.out).mono ?_
      rintro e w' ⟨rfl, rfl⟩
      go_wp2
      go_ret
      exact ⟨rfl, Below.refl _ _⟩
    · have c5 := dm_any a s w
      have c6 := dm_any b s w
      rw [e1, pair] at c1
      rw [e2, pair] at c2
      rw [e3, pair] at c5
      rw [e4, pair] at c6
      have hu := unit_cases s
      clear e1 e2 e3 e4
      generalize a * unitOf s = x at *
      generalize b * unitOf s = y at *
      generalize unitOf s = u at *
      generalize bestOf dm = B at *
      have j1 : wrap64 (dm - x) = dm - x := IntWalk.wrap64_in _ (by omega)
      have j2 : wrap64 (y - dm) = y - dm := IntWalk.wrap64_in _ (by omega)
      have C1 := Lib.hid c1; have C2 := Lib.hid c2; have C3 := Lib.hid c3; have C4 := Lib.hid c4; have C5 := Lib.hid c5; have C6 := Lib.hid c6; clear c1 c2 c3 c4 c5 c6 hu k5 k6 k7 k8
      go_enter Try.func7, Try.ntmps7
      go_wp2_with fail
      refine (awake03_any _).mono ?_
      rintro e w' ⟨rfl, rfl⟩
      go_wp2_with fail
      refine (C1.out).mono ?_
      rintro e w' ⟨rfl, rfl⟩
      go_wp2_with fail
      refine (C2.out).mono ?_
      rintro e w' ⟨rfl, rfl⟩
      go_wp2_with fail
      refine (C3.out).mono ?_
      rintro e w' ⟨rfl, rfl⟩
      go_wp2_with fail
      refine (C5.out).mono ?_
      rintro e w' ⟨rfl, rfl⟩
      go_wp2_with fail
      refine (C6.out).mono ?_
      rintro e w' ⟨rfl, rfl⟩
      go_wp2_with fail
      refine (C4.out).mono ?_
      rintro e w' ⟨rfl, rfl⟩
      go_wp2
      go_ret
      exact ⟨rfl, Below.refl _ _⟩

end Go.Proofs.Ytahoaifhheaphaa
