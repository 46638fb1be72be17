/-
  scale: the contracts of Sum, Scaled and Best.
-/
import Derived.Test.YtahoaifhheaphaaScale
namespace Go.Proofs.Ytahoaifhheaphaa
open Go.RowKit

theorem ret_pair {a b x : Int} (h : a = b) : Ending.returned (.tuple #[.int .i64 a, .int .i64 x]) = .returned (pair (b, x)) := by rw [h]; rfl

set_option maxHeartbeats 1000000 in
theorem sum_any (a b : Int) (w : World) :
    Calls Try.prog 18 #[.int .i64 a, .int .i64 b] w fun e w' => e = .returned (pair (sumOf a b)) ∧ w = w' := by
  have ca := near_any a w
  have cb := near_any b w
  have cs := near_any (a + b) w
  rw [sumOf]
  have ha : nearB a = true → -1099511627776 ≤ a ∧ a ≤ 1099511627776 := by simp [nearB]
  have hb : nearB b = true → -1099511627776 ≤ b ∧ b ≤ 1099511627776 := by simp [nearB]
  generalize nearB (a + b) = S at *
  generalize nearB a = A at *
  generalize nearB b = B at *
  have CA := Lib.hid ca; have CB := Lib.hid cb; have CS := Lib.hid cs; clear ca cb cs
  cases A
  · simp only [Bool.false_eq_true, false_and, if_false]
    clear ha hb
    go_enter Try.func18, Try.ntmps18
    go_wp2_with fail
    refine CA.out.mono ?_
    rintro e w' ⟨rfl, rfl⟩
    go_wp2
    go_ret2
    exact ⟨rfl, rfl⟩
  · have ha := ha rfl
    cases B
    · simp only [Bool.false_eq_true, false_and, and_false, if_false]
      clear ha hb
      go_enter Try.func18, Try.ntmps18
      go_wp2_with fail
      refine CA.out.mono ?_
      rintro e w' ⟨rfl, rfl⟩
      go_wp2_with fail
      refine CB.out.mono ?_
      rintro e w' ⟨rfl, rfl⟩
      go_wp2
      go_ret2
      exact ⟨rfl, rfl⟩
    · have hb := hb rfl
      have e1 : wrap64 (a + b) = a + b := IntWalk.wrap64_in _ (by omega)
      clear ha hb
      cases S
      · simp only [Bool.false_eq_true, and_false, if_false]
        go_enter Try.func18, Try.ntmps18
        go_wp2_with fail
        refine CA.out.mono ?_
        rintro e w' ⟨rfl, rfl⟩
        go_wp2_with fail
        refine CB.out.mono ?_
        rintro e w' ⟨rfl, rfl⟩
        go_wp2_with fail
        refine CS.out.mono ?_
        rintro e w' ⟨rfl, rfl⟩
        go_wp2
        go_ret2
        exact ⟨rfl, rfl⟩
      · simp only [and_self, if_true]
        go_enter Try.func18, Try.ntmps18
        go_wp2_with fail
        refine CA.out.mono ?_
        rintro e w' ⟨rfl, rfl⟩
        go_wp2_with fail
        refine CB.out.mono ?_
        rintro e w' ⟨rfl, rfl⟩
        go_wp2_with fail
        refine CS.out.mono ?_
        rintro e w' ⟨rfl, rfl⟩
        go_wp2
        go_ret2
        exact ⟨ret_pair e1, rfl⟩

set_option maxHeartbeats 1000000 in
theorem scaled_any (dm s : Int) (up : Bool) (w : World) :
    Calls Try.prog 14 #[.int .i64 dm, .int .i64 s, .bool up] w fun e w' => e = .returned (pair (scaledOf dm s up)) ∧ w = w' := by
  have hu := unit_cases s
  have c := unit_any s w
  rw [scaledOf]
  generalize unitOf s = u at *
  have C := Lib.hid c; clear c
  by_cases h0 : u = 0
  · subst h0
    rw [if_pos rfl]
    clear hu
    go_enter Try.func14, Try.ntmps14
    go_wp2_with fail
    refine C.out.mono ?_
    rintro e w' ⟨rfl, rfl⟩
    go_wp2
    go_ret2
    exact ⟨rfl, rfl⟩
  · rw [if_neg h0]
    by_cases hn : dm < 0 ∨ 1099511627776 < dm
    · rw [if_pos hn]
      obtain h | ⟨g, h⟩ : dm < 0 ∨ (¬ dm < 0 ∧ 1099511627776 < dm) := by omega
      · clear hu hn
        go_enter Try.func14, Try.ntmps14
        go_wp2_with fail
        refine C.out.mono ?_
        rintro e w' ⟨rfl, rfl⟩
        go_wp2
        go_ret2
        exact ⟨rfl, rfl⟩
      · clear hu hn
        go_enter Try.func14, Try.ntmps14
        go_wp2_with fail
        refine C.out.mono ?_
        rintro e w' ⟨rfl, rfl⟩
        go_wp2
        go_ret2
        exact ⟨rfl, rfl⟩
    · rw [if_neg hn]
      obtain ⟨h1, h2⟩ : ¬ dm < 0 ∧ ¬ 1099511627776 < dm := by omega
      have q0 : Int.tdiv dm u = dm / u := Int.tdiv_eq_ediv_of_nonneg (by omega)
      have r0 : Int.tmod dm u = dm % u := Int.tmod_eq_emod_of_nonneg (by omega)
      obtain ⟨q, hq⟩ : ∃ q, dm / u = q := ⟨_, rfl⟩
      obtain ⟨r, hr⟩ : ∃ r, dm % u = r := ⟨_, rfl⟩
      have hq1 : 0 ≤ q ∧ q ≤ 1099511627776 := by
        rcases hu with rfl | rfl | rfl | rfl <;> omega
      have e1 : wrap64 q = q := IntWalk.wrap64_in _ (by omega)
      have e2 : wrap64 (q + 1) = q + 1 := IntWalk.wrap64_in _ (by omega)
      have hr1 : wrap64 r = r := IntWalk.wrap64_in _ (by rcases hu with rfl | rfl | rfl | rfl <;> omega)
      rw [wholeOf, hq, hr]
      rw [hq] at q0; rw [hr] at r0
      clear hu hn hq hr hq1
      cases up
      · simp only [Bool.false_eq_true, false_and, if_false, Int.add_zero]
        by_cases hf : 32766 < q
        · rw [if_pos hf]
          go_enter Try.func14, Try.ntmps14
          go_wp2_with fail
          refine C.out.mono ?_
          rintro e w' ⟨rfl, rfl⟩
          go_wp2
          go_ret2
          exact ⟨rfl, rfl⟩
        · rw [if_neg hf]
          go_enter Try.func14, Try.ntmps14
          go_wp2_with fail
          refine C.out.mono ?_
          rintro e w' ⟨rfl, rfl⟩
          go_wp2
          go_ret2
          exact ⟨ret_pair e1, rfl⟩
      · by_cases hz : r = 0
        · subst hz
          simp only [ne_eq, not_true, and_false, if_false, Int.add_zero]
          by_cases hf : 32766 < q
          · rw [if_pos hf]
            go_enter Try.func14, Try.ntmps14
            go_wp2_with fail
            refine C.out.mono ?_
            rintro e w' ⟨rfl, rfl⟩
            go_wp2
            go_ret2
            exact ⟨rfl, rfl⟩
          · rw [if_neg hf]
            go_enter Try.func14, Try.ntmps14
            go_wp2_with fail
            refine C.out.mono ?_
            rintro e w' ⟨rfl, rfl⟩
            go_wp2
            go_ret2
            exact ⟨ret_pair e1, rfl⟩
        · have hz1 : (r != 0) = true := by simp [hz]
          simp only [ne_eq, hz, not_false_eq_true, and_self, if_true]
          by_cases hf : 32766 < q + 1
          · rw [if_pos hf]
            go_enter Try.func14, Try.ntmps14
            go_wp2_with fail
            refine C.out.mono ?_
            rintro e w' ⟨rfl, rfl⟩
            go_wp2
            go_ret2
            exact ⟨rfl, rfl⟩
          · rw [if_neg hf]
            go_enter Try.func14, Try.ntmps14
            go_wp2_with fail
            refine C.out.mono ?_
            rintro e w' ⟨rfl, rfl⟩
            go_wp2
            go_ret2
            exact ⟨ret_pair e2, rfl⟩

end Go.Proofs.Ytahoaifhheaphaa
