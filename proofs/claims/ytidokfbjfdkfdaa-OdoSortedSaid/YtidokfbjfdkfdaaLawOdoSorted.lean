/-
  OdoSorted answers true, and nothing that was there has turned.
-/
import Derived.Test.YtidokfbjfdkfdaaLawOdoSorts
namespace Go.Proofs.Ytidokfbjfdkfdaa
open Go.RowKit Fl
attribute [local irreducible] N E mval top U

theorem less_ff {x y : Nat} : lessB x y = false ↔ key y ≤ key x := by unfold lessB; rw [decide_eq_false_iff_not]; omega
theorem less_tt {x y : Nat} : lessB x y = true ↔ key x < key y := by unfold lessB; rw [decide_eq_true_iff]
def Rising (l : List Nat) : Prop := l.Pairwise fun a b => key a ≤ key b
theorem rising_at {l : List Nat} (h : Rising l) {i j : Nat} (hij : i ≤ j) (hj : j < l.length) : key (l.getD i 0) ≤ key (l.getD j 0) := by
  rw [List.getD_eq_getElem?_getD, List.getD_eq_getElem?_getD, List.getElem?_eq_getElem hj, List.getElem?_eq_getElem (show i < l.length by omega)]
  show key l[i] ≤ key l[j]
  rcases Nat.lt_or_eq_of_le hij with h1 | h1
  · exact List.pairwise_iff_getElem.1 h i j (by omega) hj h1
  · subst h1; exact Int.le_refl _
/-- Where a number is put in: what stands ahead is not greater, what stands behind is greater. -/
theorem pos_facts (x : Nat) (out : List Nat) : ∀ k, k ≤ out.length → (∀ i, pos x out k ≤ i → i < k → key x < key (out.getD i 0)) ∧ (0 < pos x out k → key (out.getD (pos x out k - 1) 0) ≤ key x)
  | 0, _ => ⟨fun i _ h => absurd h (by omega), fun h => absurd h (by simp [pos])⟩
  | k + 1, hk => by
    rw [pos]
    cases hb : lessB x (out.getD k 0)
    · rw [if_neg (by decide)]
      refine ⟨fun i h1 h2 => absurd h2 (by omega), fun _ => ?_⟩
      rw [Nat.add_sub_cancel]
      exact less_ff.1 hb
    · rw [if_pos rfl]
      have ih := pos_facts x out k (by omega)
      refine ⟨fun i h1 h2 => ?_, ih.2⟩
      by_cases hik : i = k
      · subst hik; exact less_tt.1 hb
      · exact ih.1 i h1 (by omega)
theorem ins_rising (x : Nat) (out : List Nat) (h : Rising out) : Rising (ins x out) := by
  have hp := pos_le x out out.length
  obtain ⟨h1, h2⟩ := pos_facts x out out.length (Nat.le_refl _)
  unfold ins
  generalize pos x out out.length = p at *
  have hahead : ∀ a ∈ out.take p, key a ≤ key x := by
    intro a ha
    obtain ⟨i, hi, rfl⟩ := List.mem_iff_getElem.1 ha
    rw [List.length_take] at hi
    have hk := rising_at h (i := i) (j := p - 1) (by omega) (by omega)
    have h3 := h2 (by omega)
    have e : (out.take p)[i] = out.getD i 0 := by
      rw [List.getElem_take, List.getD_eq_getElem?_getD, List.getElem?_eq_getElem (by omega)]; rfl
    rw [e]
    omega
  have hbehind : ∀ b ∈ out.drop p, key x ≤ key b := by
    intro b hb
    obtain ⟨i, hi, rfl⟩ := List.mem_iff_getElem.1 hb
    rw [List.length_drop] at hi
    have h3 := h1 (p + i) (by omega) (by omega)
    have e : (out.drop p)[i] = out.getD (p + i) 0 := by
      rw [List.getElem_drop, List.getD_eq_getElem?_getD, List.getElem?_eq_getElem (by omega)]; rfl
    rw [e]
    omega
  have hs : Rising (out.take p ++ out.drop p) := by rw [List.take_append_drop]; exact h
  obtain ⟨s1, s2, s3⟩ := List.pairwise_append.1 hs
  refine List.pairwise_append.2 ⟨List.pairwise_append.2 ⟨s1, List.pairwise_singleton _ _, ?_⟩, s2, ?_⟩
  · intro a ha b hb
    rw [List.mem_singleton] at hb
    subst hb
    exact hahead a ha
  · intro a ha b hb
    rw [List.mem_append, List.mem_singleton] at ha
    rcases ha with ha | ha
    · exact s3 a ha b hb
    · subst ha; exact hbehind b hb
theorem sort_rising_foldl (l : List Nat) : ∀ out : List Nat, Rising out → Rising (l.foldl (fun out x => ins x out) out) := by
  induction l with
  | nil => intro out h; exact h
  | cons x l ih => intro out h; rw [List.foldl_cons]; exact ih _ (ins_rising x out h)
theorem sort_rising (l : List Nat) : Rising (sortOf l) := sort_rising_foldl l [] List.Pairwise.nil
theorem ins_count (p : Nat → Bool) (x : Nat) (out : List Nat) : (ins x out).countP p = out.countP p + (if p x = true then 1 else 0) := by
  unfold ins
  have h := congrArg (List.countP p) (List.take_append_drop (pos x out out.length) out)
  rw [List.countP_append] at h
  rw [List.countP_append, List.countP_append, List.countP_cons, List.countP_nil]
  omega
theorem sort_count_foldl (p : Nat → Bool) (l : List Nat) : ∀ out : List Nat, (l.foldl (fun out x => ins x out) out).countP p = out.countP p + l.countP p := by
  induction l with
  | nil => intro out; simp
  | cons x l ih => intro out; rw [List.foldl_cons, ih, ins_count, List.countP_cons]; omega
theorem sort_count (p : Nat → Bool) (l : List Nat) : (sortOf l).countP p = l.countP p := by rw [sortOf, sort_count_foldl]; simp
theorem count_step (p : Nat → Bool) (l : List Nat) (j : Nat) (h : j < l.length) : (l.take (j + 1)).countP p = (l.take j).countP p + (if p (l.getD j 0) = true then 1 else 0) := by
  rw [List.take_succ_eq_append_getElem h, List.countP_append, List.countP_cons, List.countP_nil]
  simp [List.getD_eq_getElem?_getD, List.getElem?_eq_getElem h]
theorem count_le (p : Nat → Bool) (l : List Nat) (j : Nat) : (l.take j).countP p ≤ j := by
  refine Nat.le_trans List.countP_le_length ?_
  rw [List.length_take]; omega

theorem SlF.cell {w : World} {b off m c : Nat} {l : List Nat} (h : SlF w (some ⟨b, off, none⟩) m c l) {j : Nat} (hj : j < m) : w.cell? ⟨b, off + j, none⟩ = some (.float .f64 (l.getD j 0)) := by
  obtain ⟨b', off', e, hc⟩ := h.at_ hj
  simp only [Option.some.injEq, Addr.mk.injEq, and_true] at e
  obtain ⟨rfl, rfl⟩ := e
  exact hc

set_option maxRecDepth 100000 in
set_option maxHeartbeats 8000000 in
theorem odoSorted_walk (A : Option Addr) (n c : Nat) (l : List Nat) (x : Nat) (w : World) (hl : SlF w A n c l) (wx : (Lit.float .f64 x).wf = true) :
    Calls Try.prog 9 #[.slice A n c, .float .f64 x] w fun e w' => e = .returned (.bool true) ∧ Below w.heap.size w w' := by
  by_cases hn : n ≤ 200
  · have hll := hl.len
    have HL := Lib.hid hl; clear hl
    have hlt : ¬ (200 : Int) < n := by omega
    have WX := Lib.hid wx; clear wx
    have hslen : (sortOf l).length = n := by rw [sort_length]; exact hll
    have hrise := sort_rising l
    have hcnt := sort_count (fun z => sameB z x) l
    obtain ⟨S, hS⟩ : ∃ S, sortOf l = S := ⟨_, rfl⟩
    rw [hS] at hslen hrise hcnt
    have HSS := Lib.hid hS; have HR := Lib.hid hrise; have HCN := Lib.hid hcnt; have HSL := Lib.hid hslen; clear hS hrise hcnt hslen
    go_enter Try.func9, Try.ntmps9
    go_wp2_with fail
    refine (awake04_any _).mono ?_
    rintro e w1 ⟨rfl, b⟩
    have HB1 := Lib.hid b; clear b
    go_wp2_with fail
    refine (odo_sort A n c l _ (HL.out.under HB1.out) (by omega)).mono ?_
    rintro e w2 ⟨A2, c2, rfl, h2, b⟩
    rw [HSS.out] at h2
    have HB2 := Lib.hid (HB1.out.trans (b.mono HB1.out.size))
    have HS2 := Lib.hid h2
    clear b h2 HB1
    have hne : ((n : Int) != (n : Int)) = false := by simp
    go_wp2
    go_loopg [7, 8, 9] n (fun kk a b i wl => ∃ j : Nat, j ≤ n ∧ n - j ≤ kk ∧ i = .int .i64 j ∧ a = .int .i64 (((l.take j).countP fun z => sameB z x : Nat) : Int) ∧ b = .int .i64 (((S.take j).countP fun z => sameB z x : Nat) : Int) ∧ Below w2.heap.size w2 wl)
    case atStart => exact ⟨0, by omega, by omega, rfl, rfl, rfl, Below.refl _ _⟩
    case round =>
      obtain ⟨j, hj, hjk, rfl, rfl, rfl, hb⟩ := hrel
      have HB := Lib.hid hb; clear hb
      by_cases hjn : j < n
      · have HLr := Lib.hid ((HL.out.under HB2.out).under HB.out)
        have HSr := Lib.hid (HS2.out.under HB.out)
        obtain ⟨b, off, rfl, _⟩ := HLr.out.at_ hjn
        obtain ⟨b2, off2, rfl, _⟩ := HSr.out.at_ hjn
        have hq1 := count_step (fun z => sameB z x) l j (by omega)
        have hq2 := count_step (fun z => sameB z x) S j (by have := HSL.out; omega)
        have hle1 := count_le (fun z => sameB z x) l j
        have hle2 := count_le (fun z => sameB z x) S j
        have W1 := HLr.out.wf_at hjn
        have W2 := HSr.out.wf_at hjn
        have hc1 := HLr.out.cell hjn
        have hc2 := fun w' (hb : Below wr.heap.size wr w') => (HSr.out.under hb).cell hjn
        have hc3 := fun (h0 : 0 < j) w' (hb : Below wr.heap.size wr w') => (HSr.out.under hb).cell (j := j - 1) (by omega)
        have W3 := fun (h0 : 0 < j) => HSr.out.wf_at (j := j - 1) (by omega)
        have hless : 0 < j → lessB (S.getD j 0) (S.getD (j - 1) 0) = false := fun h0 => less_ff.2 (rising_at HR.out (by omega) (by have := HSL.out; omega))
        have c1 := fun w => odo_same (l.getD j 0) x W1 WX.out w
        have c2 := fun w => odo_same (S.getD j 0) x W2 WX.out w
        have c3 := fun (h0 : 0 < j) w => odo_lessq (S.getD j 0) (S.getD (j - 1) 0) W2 (W3 h0) w
        have HREL : ∀ u1 u2 : Nat, (l.take (j + 1)).countP (fun z => sameB z x) = u1 → (S.take (j + 1)).countP (fun z => sameB z x) = u2 → ∀ w', Below w2.heap.size w2 w' → ∃ j' : Nat, j' ≤ n ∧ n - j' ≤ gk - 1 ∧ Value.int .i64 ((j : Int) + 1) = .int .i64 j' ∧ Value.int .i64 (u1 : Int) = .int .i64 (((l.take j').countP fun z => sameB z x : Nat) : Int) ∧ Value.int .i64 (u2 : Int) = .int .i64 (((S.take j').countP fun z => sameB z x : Nat) : Int) ∧ Below w2.heap.size w2 w' := by
          intro u1 u2 h1 h2 w' hb
          exact ⟨j + 1, by omega, by omega, rfl, by rw [h1], by rw [h2], hb⟩
        generalize (l.take j).countP (fun z => sameB z x) = p1 at *
        generalize (S.take j).countP (fun z => sameB z x) = p2 at *
        generalize l.getD j 0 = y at *
        generalize S.getD j 0 = z at *
        generalize S.getD (j - 1) 0 = z' at *
        generalize sameB y x = u1 at *
        generalize sameB z x = u2 at *
        have HQ1 := Lib.hid hq1; have HQ2 := Lib.hid hq2; have HC2 := Lib.hid hc2; have HC3 := Lib.hid hc3; have HLS := Lib.hid hless; have C1 := Lib.hid c1; have C2 := Lib.hid c2; have C3 := Lib.hid c3; have HRE := Lib.hid HREL
        clear hq1 hq2 hc2 hc3 hless c1 c2 c3 HREL W1 W2 W3
        have x0 : (0 : Int) ≤ j := by omega
        have x1 : (j : Int) < n := by omega
        go_wp2_with fail
        refine (C1.out _).mono ?_
        rintro e w3 ⟨rfl, b3⟩
        have HB3 := Lib.hid b3; clear b3
        have hd2 := HC2.out _ HB3.out
        cases u1
        all_goals
          go_wp2_with fail
          refine (C2.out _).mono ?_
          rintro e w4 ⟨rfl, b4⟩
          have HB4 := Lib.hid (HB3.out.trans (b4.mono HB3.out.size)); clear b4
          have he2 := HC2.out _ HB4.out
          cases u2
          all_goals
            by_cases hj0 : j = 0
            · subst hj0
              have g0 : decide ((0 : Int) < ((0 : Nat) : Int)) = false := by decide
              go_wp2_with fail
              go_quiet (fail)
              go_wp2
              go_roundg (gk - 1)
              case measure => omega
              case rel => exact HRE.out _ _ HQ1.out HQ2.out _ (below_draws (HB.out.trans (HB4.out.mono HB.out.size)) nq)
            · obtain ⟨k, rfl⟩ : ∃ k, j = k + 1 := ⟨j - 1, by omega⟩
              have he3 := HC3.out (by omega) _ HB4.out
              have c3 := C3.out (by omega)
              rw [HLS.out (by omega)] at c3
              rw [Nat.add_sub_cancel] at he3
              have g0 : (0 : Int) < ((k + 1 : Nat) : Int) := by omega
              have y0 : (0 : Int) ≤ k := by omega
              have y1 : (k : Int) < n := by omega
              have C3 := Lib.hid c3; clear c3
              go_wp2_with fail
              go_quiet ((go_at_call 15; exact Calls.quiet_of (C3.out _)))
              go_wp2
              go_roundg (gk - 1)
              case measure => omega
              case rel => exact HRE.out _ _ HQ1.out HQ2.out _ (below_draws (HB.out.trans (HB4.out.mono HB.out.size)) nq)
      · obtain rfl : j = n := by omega
        have e1 : l.take j = l := by rw [← hll, List.take_length]
        have e2 : S.take j = S := by rw [← HSL.out, List.take_length]
        rw [e1, e2, HCN.out]
        generalize (List.countP (fun z => sameB z x) l) = q at *
        go_wp2
        go_ret
        exact ⟨rfl, HB2.out.trans (HB.out.mono HB2.out.size)⟩
  · have hlt : (200 : Int) < n := by omega
    clear hl hn
    go_enter Try.func9, Try.ntmps9
    go_wp2_with fail
    refine (awake04_any _).mono ?_
    rintro e w1 ⟨rfl, b⟩
    have HB1 := Lib.hid b; clear b
    go_wp2
    go_ret
    exact ⟨rfl, HB1.out⟩
end Go.Proofs.Ytidokfbjfdkfdaa
