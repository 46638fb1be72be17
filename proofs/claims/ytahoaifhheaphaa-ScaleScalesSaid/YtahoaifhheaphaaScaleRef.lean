/-
  linesideref03's functions: units, decimetres, scaled distances and sums, as the document has them.
-/
import Derived.Test.YtahoaifhheaphaaScaleC
import Derived.Deep.LoopGhost
namespace Go.Proofs.Ytahoaifhheaphaa
open Go.RowKit

theorem near_iff (a : Int) : nearB a = true ↔ -1099511627776 ≤ a ∧ a ≤ 1099511627776 := by simp [nearB]
theorem sumOf_pos {a b : Int} (h : (-1099511627776 ≤ a ∧ a ≤ 1099511627776) ∧ (-1099511627776 ≤ b ∧ b ≤ 1099511627776) ∧ -1099511627776 ≤ a + b ∧ a + b ≤ 1099511627776) : sumOf a b = (a + b, 0) := by
  rw [sumOf, if_pos]
  rwa [near_iff, near_iff, near_iff]
theorem sumOf_neg {a b : Int} (h : ¬ ((-1099511627776 ≤ a ∧ a ≤ 1099511627776) ∧ (-1099511627776 ≤ b ∧ b ≤ 1099511627776) ∧ -1099511627776 ≤ a + b ∧ a + b ≤ 1099511627776)) : sumOf a b = (0, 7) := by
  rw [sumOf, if_neg]
  rwa [near_iff, near_iff, near_iff]

set_option maxHeartbeats 1000000 in
theorem ref_unit (s : Int) (w : World) :
    Calls Try.prog 13 #[.int .i64 s] w fun e w' => e = .returned (.int .i64 (unitOf s)) ∧ Below w.heap.size w w' := by
  have hb0 := (Below.refl w.heap.size w).alloc (Nat.le_refl _) (.cells #[.int .i64 1, .int .i64 10, .int .i64 100] 3)
  have HB := Lib.hid hb0; clear hb0
  by_cases h : s < 0
  · rw [show unitOf s = 0 by simp only [unitOf]; rw [if_neg (by omega), if_neg (by omega), if_neg (by omega)]]
    go_enter Try.func13, Try.ntmps13
    go_wp2
    go_ret
    exact ⟨rfl, HB.out⟩
  · by_cases h2 : 2 < s
    · rw [show unitOf s = 0 by simp only [unitOf]; rw [if_neg (by omega), if_neg (by omega), if_neg (by omega)]]
      go_enter Try.func13, Try.ntmps13
      go_wp2
      go_ret
      exact ⟨rfl, HB.out⟩
    · obtain rfl | rfl | rfl : s = 0 ∨ s = 1 ∨ s = 2 := by omega
      · rw [show unitOf 0 = 1 from rfl]
        clear h h2
        go_enter Try.func13, Try.ntmps13
        go_wp2
        go_ret
        exact ⟨rfl, HB.out⟩
      · rw [show unitOf 1 = 10 from rfl]
        clear h h2
        go_enter Try.func13, Try.ntmps13
        go_wp2
        go_ret
        exact ⟨rfl, HB.out⟩
      · rw [show unitOf 2 = 100 from rfl]
        clear h h2
        go_enter Try.func13, Try.ntmps13
        go_wp2
        go_ret
        exact ⟨rfl, HB.out⟩

set_option maxHeartbeats 1000000 in
theorem ref_dm (n s : Int) (w : World) :
    Calls Try.prog 11 #[.int .i64 n, .int .i64 s] w fun e w' => e = .returned (pair (dmOf n s)) ∧ Below w.heap.size w w' := by
  have hu := unit_cases s
  have c := ref_unit s w
  rw [dmOf]
  generalize unitOf s = u at *
  have C := Lib.hid c; clear c
  by_cases h0 : u = 0
  · subst h0
    rw [if_pos rfl]
    clear hu
    go_enter Try.func11, Try.ntmps11
    go_wp2_with fail
    refine (C.out).mono ?_
    rintro e w' ⟨rfl, hb⟩
    have HB := Lib.hid hb
    clear hb
    go_wp2
    go_ret2
    exact ⟨rfl, HB.out⟩
  · rw [if_neg h0]
    by_cases hn : n < 0 ∨ 32766 < n
    · rw [if_pos hn]
      obtain h | ⟨g, h⟩ : n < 0 ∨ (¬ n < 0 ∧ 32766 < n) := by omega
      · clear hu hn
        go_enter Try.func11, Try.ntmps11
        go_wp2_with fail
        refine (C.out).mono ?_
        rintro e w' ⟨rfl, hb⟩
        have HB := Lib.hid hb
        clear hb
        go_wp2
        go_ret2
        exact ⟨rfl, HB.out⟩
      · clear hu hn
        go_enter Try.func11, Try.ntmps11
        go_wp2_with fail
        refine (C.out).mono ?_
        rintro e w' ⟨rfl, hb⟩
        have HB := Lib.hid hb
        clear hb
        go_wp2
        go_ret2
        exact ⟨rfl, HB.out⟩
    · rw [if_neg hn]
      obtain ⟨h1, h2⟩ : ¬ n < 0 ∧ ¬ 32766 < n := by omega
      have hb : 0 ≤ n * u ∧ n * u ≤ 3276600 := by
        rcases hu with rfl | rfl | rfl | rfl <;> omega
      have hm : wrap64 (n * u) = n * u := by simp only [wrap64]; omega
      clear hu hn
      go_enter Try.func11, Try.ntmps11
      go_wp2_with fail
      refine (C.out).mono ?_
      rintro e w' ⟨rfl, hb⟩
      have HB := Lib.hid hb
      clear hb
      go_wp2
      go_ret2
      exact ⟨rfl, HB.out⟩

set_option maxHeartbeats 1000000 in
theorem ref_sum (a b : Int) (w : World) :
    Calls Try.prog 19 #[.int .i64 a, .int .i64 b] w fun e w' => e = .returned (pair (sumOf a b)) ∧ w = w' := by
  by_cases h : (-1099511627776 ≤ a ∧ a ≤ 1099511627776) ∧ (-1099511627776 ≤ b ∧ b ≤ 1099511627776)
  · obtain ⟨⟨h1, h2⟩, h3, h4⟩ := h
    have e1 : wrap64 (a + b) = a + b := IntWalk.wrap64_in _ (by omega)
    have i1 : ¬ a < -1099511627776 := by omega
    have i2 : ¬ 1099511627776 < a := by omega
    have i3 : ¬ b < -1099511627776 := by omega
    have i4 : ¬ 1099511627776 < b := by omega
    by_cases k1 : a + b < -1099511627776
    · rw [show sumOf a b = (0, 7) from sumOf_neg (by omega)]
      clear h1 h2 h3 h4
      go_enter Try.func19, Try.ntmps19
      go_wp2
      go_ret2
      exact ⟨rfl, rfl⟩
    · by_cases k2 : 1099511627776 < a + b
      · rw [show sumOf a b = (0, 7) from sumOf_neg (by omega)]
        clear h1 h2 h3 h4
        go_enter Try.func19, Try.ntmps19
        go_wp2
        go_ret2
        exact ⟨rfl, rfl⟩
      · rw [show sumOf a b = (a + b, 0) from sumOf_pos (by omega)]
        clear h1 h2 h3 h4
        go_enter Try.func19, Try.ntmps19
        go_wp2
        go_ret2
        exact ⟨rfl, rfl⟩
  · rw [show sumOf a b = (0, 7) from sumOf_neg (by omega)]
    by_cases i1 : a < -1099511627776
    · clear h
      go_enter Try.func19, Try.ntmps19
      go_wp2
      go_ret2
      exact ⟨rfl, rfl⟩
    by_cases i2 : 1099511627776 < a
    · clear h
      go_enter Try.func19, Try.ntmps19
      go_wp2
      go_ret2
      exact ⟨rfl, rfl⟩
    by_cases i3 : b < -1099511627776
    · clear h
      go_enter Try.func19, Try.ntmps19
      go_wp2
      go_ret2
      exact ⟨rfl, rfl⟩
    · have i4 : 1099511627776 < b := by omega
      clear h
      go_enter Try.func19, Try.ntmps19
      go_wp2
      go_ret2
      exact ⟨rfl, rfl⟩

set_option maxHeartbeats 1000000 in
theorem ref_scaled (dm s : Int) (up : Bool) (w : World) :
    Calls Try.prog 15 #[.int .i64 dm, .int .i64 s, .bool up] w fun e w' => e = .returned (pair (scaledOf dm s up)) ∧ Below w.heap.size w w' := by
  have hu := unit_cases s
  have c := ref_unit s w
  rw [scaledOf]
  generalize unitOf s = u at *
  have C := Lib.hid c; clear c
  by_cases h0 : u = 0
  · subst h0
    rw [if_pos rfl]
    clear hu
    go_enter Try.func15, Try.ntmps15
    go_wp2_with fail
    refine (C.out).mono ?_
    rintro e w' ⟨rfl, hb⟩
    have HB := Lib.hid hb
    clear hb
    go_wp2
    go_ret2
    exact ⟨rfl, HB.out⟩
  · rw [if_neg h0]
    by_cases hn : dm < 0 ∨ 1099511627776 < dm
    · rw [if_pos hn]
      obtain h | ⟨g, h⟩ : dm < 0 ∨ (¬ dm < 0 ∧ 1099511627776 < dm) := by omega
      · clear hu hn
        go_enter Try.func15, Try.ntmps15
        go_wp2_with fail
        refine (C.out).mono ?_
        rintro e w' ⟨rfl, hb⟩
        have HB := Lib.hid hb
        clear hb
        go_wp2
        go_ret2
        exact ⟨rfl, HB.out⟩
      · clear hu hn
        go_enter Try.func15, Try.ntmps15
        go_wp2_with fail
        refine (C.out).mono ?_
        rintro e w' ⟨rfl, hb⟩
        have HB := Lib.hid hb
        clear hb
        go_wp2
        go_ret2
        exact ⟨rfl, HB.out⟩
    · rw [if_neg hn]
      obtain ⟨h1, h2⟩ : ¬ dm < 0 ∧ ¬ 1099511627776 < dm := by omega
      have q0 : Int.tdiv dm u = dm / u := Int.tdiv_eq_ediv_of_nonneg (by omega)
      obtain ⟨q, hq⟩ : ∃ q, dm / u = q := ⟨_, rfl⟩
      obtain ⟨r, hr⟩ : ∃ r, dm % u = r := ⟨_, rfl⟩
      obtain ⟨hq1, hr1⟩ : (0 ≤ q ∧ q ≤ 1099511627776) ∧ 0 ≤ r := by
        rcases hu with rfl | rfl | rfl | rfl <;> omega
      have hm : q * u = dm - r := by
        rcases hu with rfl | rfl | rfl | rfl <;> omega
      have e1 : wrap64 q = q := IntWalk.wrap64_in _ (by omega)
      have e2 : wrap64 (q + 1) = q + 1 := IntWalk.wrap64_in _ (by omega)
      have e3 : wrap64 (q * u) = dm - r := by rw [hm]; exact IntWalk.wrap64_in _ (by rcases hu with rfl | rfl | rfl | rfl <;> omega)
      rw [wholeOf, hq, hr]
      rw [hq] at q0
      clear hu hn hq hr hq1 hm
      cases up
      · simp only [Bool.false_eq_true, false_and, if_false, Int.add_zero]
        by_cases hf : 32766 < q
        · rw [if_pos hf]
          go_enter Try.func15, Try.ntmps15
          go_wp2_with fail
          refine (C.out).mono ?_
          rintro e w' ⟨rfl, hb⟩
          have HB := Lib.hid hb
          clear hb
          go_wp2
          go_ret2
          exact ⟨rfl, HB.out⟩
        · rw [if_neg hf]
          go_enter Try.func15, Try.ntmps15
          go_wp2_with fail
          refine (C.out).mono ?_
          rintro e w' ⟨rfl, hb⟩
          have HB := Lib.hid hb
          clear hb
          go_wp2
          go_ret2
          exact ⟨ret_pair e1, HB.out⟩
      · by_cases hz : r = 0
        · subst hz
          rw [Int.sub_zero] at e3
          simp only [ne_eq, not_true, and_false, if_false, Int.add_zero]
          by_cases hf : 32766 < q
          · rw [if_pos hf]
            go_enter Try.func15, Try.ntmps15
            go_wp2_with fail
            refine (C.out).mono ?_
            rintro e w' ⟨rfl, hb⟩
            have HB := Lib.hid hb
            clear hb
            go_wp2
            go_ret2
            exact ⟨rfl, HB.out⟩
          · rw [if_neg hf]
            go_enter Try.func15, Try.ntmps15
            go_wp2_with fail
            refine (C.out).mono ?_
            rintro e w' ⟨rfl, hb⟩
            have HB := Lib.hid hb
            clear hb
            go_wp2
            go_ret2
            exact ⟨ret_pair e1, HB.out⟩
        · have hz1 : dm - r < dm := by omega
          simp only [ne_eq, hz, not_false_eq_true, and_self, if_true]
          by_cases hf : 32766 < q + 1
          · rw [if_pos hf]
            go_enter Try.func15, Try.ntmps15
            go_wp2_with fail
            refine (C.out).mono ?_
            rintro e w' ⟨rfl, hb⟩
            have HB := Lib.hid hb
            clear hb
            go_wp2
            go_ret2
            exact ⟨rfl, HB.out⟩
          · rw [if_neg hf]
            go_enter Try.func15, Try.ntmps15
            go_wp2_with fail
            refine (C.out).mono ?_
            rintro e w' ⟨rfl, hb⟩
            have HB := Lib.hid hb
            clear hb
            go_wp2
            go_ret2
            exact ⟨ret_pair e2, HB.out⟩

set_option maxHeartbeats 1000000 in
theorem ref_best (dm : Int) (w : World) :
    Calls Try.prog 17 #[.int .i64 dm] w fun e w' => e = .returned (.int .i64 (bestOf dm)) ∧ Below w.heap.size w w' := by
  rw [← bestFrom_zero]
  obtain ⟨B, hB⟩ : ∃ B, bestFrom dm 0 = B := ⟨_, rfl⟩
  rw [hB]
  have C := Lib.hid (fun s w => ref_scaled dm s true w)
  have HC0 := Lib.hid hB; clear hB
  go_enter Try.func17, Try.ntmps17
  go_wp2
  go_loopg [3] 3 (fun kk i wl => ∃ k : Nat, k ≤ 3 ∧ 3 - k ≤ kk ∧ i = .int .i64 k ∧ bestFrom dm k = B ∧ Below w.heap.size w wl)
  case atStart => exact ⟨0, by omega, by omega, rfl, HC0.out, Below.refl _ _⟩
  case round =>
    obtain ⟨k, hk, hkk, rfl, hf, hb⟩ := hrel
    have HB := Lib.hid hb; clear hb
    by_cases hlt : k < 3
    · rw [bestFrom_in _ _ hlt] at hf
      have c := C.out k wr
      generalize scaledOf dm k true = R at *
      obtain ⟨n, x⟩ := R
      by_cases hx : x = 0
      · rw [if_pos hx] at hf
        subst hf
        subst hx
        go_wp2_with fail
        refine c.mono ?_
        rintro e w' ⟨rfl, hb⟩
        have HB2 := Lib.hid (HB.out.trans (hb.mono HB.out.size)); clear hb
        simp only [pair]
        go_wp2
        go_ret
        exact ⟨rfl, HB2.out⟩
      · rw [if_neg hx] at hf
        have HF := Lib.hid hf
        clear hf
        have hx1 : (x == 0) = false := by simp [hx]
        go_wp2_with fail
        refine c.mono ?_
        rintro e w' ⟨rfl, hb⟩
        have HB2 := Lib.hid (HB.out.trans (hb.mono HB.out.size)); clear hb
        simp only [pair]
        go_wp2
        go_roundg (gk - 1)
        case measure => omega
        case rel => exact ⟨k + 1, by omega, by omega, by go_num, HF.out, HB2.out⟩
    · rw [bestFrom_out _ _ (by omega)] at hf
      subst hf
      go_wp2
      go_ret
      exact ⟨rfl, HB.out⟩

end Go.Proofs.Ytahoaifhheaphaa
