/-
  ScaleTogether answers true, and nothing that was there has turned.
-/
import Derived.Test.YtahoaifhheaphaaLawAwake03
namespace Go.Proofs.Ytahoaifhheaphaa
open Go.RowKit

def fits (x : Int) : Prop := -1099511627776 ≤ x ∧ x ≤ 1099511627776
theorem sum_cases (a b : Int) : (sumOf a b = (a + b, 0) ∧ fits a ∧ fits b ∧ fits (a + b)) ∨ sumOf a b = (0, 7) := by
  rw [sumOf]
  by_cases h : nearB a = true ∧ nearB b = true ∧ nearB (a + b) = true
  · exact .inl ⟨by rw [if_pos h], by simpa [fits, nearB] using h⟩
  · exact .inr (by rw [if_neg h])
theorem sum_comm (a b : Int) : sumOf b a = sumOf a b := by
  rw [sumOf, sumOf, Int.add_comm b a]
  congr 1
  exact propext ⟨fun ⟨x, y, z⟩ => ⟨y, x, z⟩, fun ⟨x, y, z⟩ => ⟨y, x, z⟩⟩
theorem sum_back (a b : Int) (ha : fits a) (hb : fits b) (hc : fits (a + b)) : sumOf (a + b) (-b) = (a, 0) := by
  unfold fits at *
  rw [sumOf, if_pos, show a + b + -b = a by omega]
  simp [nearB]
  omega

set_option maxHeartbeats 1000000 in
theorem scaleTogether_walk (a b c : Int) (w : World) (wa : (Lit.int .i64 a).wf = true) (wb : (Lit.int .i64 b).wf = true) (wc : (Lit.int .i64 c).wf = true) :
    Calls Try.prog 8 #[.int .i64 a, .int .i64 b, .int .i64 c] w fun e w' => e = .returned (.bool true) ∧ Below w.heap.size w w' := by
  clear wa wb wc
  have c1 := sum_any a b w
  have c2 := sum_any b a w
  rw [sum_comm a b] at c2
  rcases sum_cases a b with ⟨e1, fa, fb, fc⟩ | e1
  · rw [e1, pair] at c1 c2
    have c3 := sum_any (a + b) (-b) w
    rw [sum_back a b fa fb fc, pair] at c3
    have c4 := sum_any (a + b) c w
    have c5 := sum_any b c w
    have hn : wrap64 (-b) = -b := IntWalk.wrap64_in _ (by unfold fits at fb; omega)
    have hlast : ∀ p q h i r j, sumOf (a + b) c = (p, h) → sumOf b c = (q, i) → sumOf a q = (r, j) → h = 0 → i = 0 → j = 0 → p = r := by
      intro p q h i r j e2 e3 e4 hh hi hj
      subst hh; subst hi; subst hj
      rcases sum_cases (a + b) c with ⟨k2, _⟩ | k2 <;> rw [k2] at e2 <;> simp only [Prod.mk.injEq] at e2
      · rcases sum_cases b c with ⟨k3, _⟩ | k3 <;> rw [k3] at e3 <;> simp only [Prod.mk.injEq] at e3
        · rcases sum_cases a q with ⟨k4, _⟩ | k4 <;> rw [k4] at e4 <;> simp only [Prod.mk.injEq] at e4 <;> omega
        · omega
      · omega
    obtain ⟨p, h, e2⟩ : ∃ p h, sumOf (a + b) c = (p, h) := ⟨_, _, rfl⟩
    obtain ⟨q, i, e3⟩ : ∃ q i, sumOf b c = (q, i) := ⟨_, _, rfl⟩
    have c6 := sum_any a q w
    obtain ⟨r, j, e4⟩ : ∃ r j, sumOf a q = (r, j) := ⟨_, _, rfl⟩
    have hl := hlast p q h i r j e2 e3 e4
    rw [e2, pair] at c4
    rw [e3, pair] at c5
    rw [e4, pair] at c6
    clear hlast e1 e2 e3 e4 fa fb fc
    generalize a + b = x at *
    have C1 := Lib.hid c1; have C2 := Lib.hid c2; have C3 := Lib.hid c3; have C4 := Lib.hid c4; have C5 := Lib.hid c5; have C6 := Lib.hid c6; clear c1 c2 c3 c4 c5 c6
    by_cases hh : h = 0
    · subst hh
      by_cases hi : i = 0
      · subst hi
        by_cases hj : j = 0
        · subst hj
          obtain rfl := hl rfl rfl rfl
          go_enter Try.func8, Try.ntmps8
          go_wp2_with fail
          refine (awake03_any _).mono ?_
          rintro e w' ⟨rfl, rfl⟩
          go_wp2_with fail
          refine (C1.out).mono ?_
          rintro e w' ⟨rfl, rfl⟩
          go_wp2_with fail
          refine (C2.out).mono ?_
          rintro e w' ⟨rfl, rfl⟩
          go_wp2_with fail
          refine (C3.out).mono ?_
          rintro e w' ⟨rfl, rfl⟩
          go_wp2_with fail
          refine (C4.out).mono ?_
          rintro e w' ⟨rfl, rfl⟩
          go_wp2_with fail
          refine (C5.out).mono ?_
          rintro e w' ⟨rfl, rfl⟩
          go_wp2_with fail
          refine (C6.out).mono ?_
          rintro e w' ⟨rfl, rfl⟩
          go_wp2
          go_ret
          exact ⟨rfl, Below.refl _ _⟩
        · have hj1 : (j != 0) = true := by simp [hj]
          clear hl
          go_enter Try.func8, Try.ntmps8
          go_wp2_with fail
          refine (awake03_any _).mono ?_
          rintro e w' ⟨rfl, rfl⟩
          go_wp2_with fail
          refine (C1.out).mono ?_
          rintro e w' ⟨rfl, rfl⟩
          go_wp2_with fail
          refine (C2.out).mono ?_
          rintro e w' ⟨rfl, rfl⟩
          go_wp2_with fail
          refine (C3.out).mono ?_
          rintro e w' ⟨rfl, rfl⟩
          go_wp2_with fail
          refine (C4.out).mono ?_
          rintro e w' ⟨rfl, rfl⟩
          go_wp2_with fail
          refine (C5.out).mono ?_
          rintro e w' ⟨rfl, rfl⟩
          go_wp2_with fail
          refine (C6.out).mono ?_
          rintro e w' ⟨rfl, rfl⟩
          go_wp2
          go_ret
          exact ⟨rfl, Below.refl _ _⟩
      · have hi1 : (i != 0) = true := by simp [hi]
        clear hl
        go_enter Try.func8, Try.ntmps8
        go_wp2_with fail
        refine (awake03_any _).mono ?_
        rintro e w' ⟨rfl, rfl⟩
        go_wp2_with fail
        refine (C1.out).mono ?_
        rintro e w' ⟨rfl, rfl⟩
        go_wp2_with fail
        refine (C2.out).mono ?_
        rintro e w' ⟨rfl, rfl⟩
        go_wp2_with fail
        refine (C3.out).mono ?_
        rintro e w' ⟨rfl, rfl⟩
        go_wp2_with fail
        refine (C4.out).mono ?_
        rintro e w' ⟨rfl, rfl⟩
        go_wp2_with fail
        refine (C5.out).mono ?_
        rintro e w' ⟨rfl, rfl⟩
        go_wp2_with fail
        refine (C6.out).mono ?_
        rintro e w' ⟨rfl, rfl⟩
        go_wp2
        go_ret
        exact ⟨rfl, Below.refl _ _⟩
    · have hh1 : (h != 0) = true := by simp [hh]
      clear hl
      go_enter Try.func8, Try.ntmps8
      go_wp2_with fail
      refine (awake03_any _).mono ?_
      rintro e w' ⟨rfl, rfl⟩
      go_wp2_with fail
      refine (C1.out).mono ?_
      rintro e w' ⟨rfl, rfl⟩
      go_wp2_with fail
      refine (C2.out).mono ?_
      rintro e w' ⟨rfl, rfl⟩
      go_wp2_with fail
      refine (C3.out).mono ?_
      rintro e w' ⟨rfl, rfl⟩
      go_wp2_with fail
      refine (C4.out).mono ?_
      rintro e w' ⟨rfl, rfl⟩
      go_wp2_with fail
      refine (C5.out).mono ?_
      rintro e w' ⟨rfl, rfl⟩
      go_wp2_with fail
      refine (C6.out).mono ?_
      rintro e w' ⟨rfl, rfl⟩
      go_wp2
      go_ret
      exact ⟨rfl, Below.refl _ _⟩
  · rw [e1, pair] at c1 c2
    have C1 := Lib.hid c1; have C2 := Lib.hid c2; clear c1 c2 e1
    go_enter Try.func8, Try.ntmps8
    go_wp2_with fail
    refine (awake03_any _).mono ?_
    rintro e w' ⟨rfl, rfl⟩
    go_wp2_with fail
    refine (C1.out).mono ?_
    rintro e w' ⟨rfl, rfl⟩
    go_wp2_with fail
    refine (C2.out).mono ?_
    rintro e w' ⟨rfl, rfl⟩
    go_wp2
    go_ret
    exact ⟨rfl, Below.refl _ _⟩

end Go.Proofs.Ytahoaifhheaphaa
