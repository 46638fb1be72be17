/-
  PkPure, PkWhole, PkTheory, PkBack, PkItems, PkGet: merged.
-/
import Derived.Test.YtamnhnleipnhdaaDoorMgE
import Derived.Deep.RegionHeld3
import Derived.Deep.DeepCutAuto
import Derived.StillTailTactics
import Derived.Deep.AppendLies

/-
  One tree, gone through over numbers and over bits: what succeeds over the one succeeds over the other, with the same numbers; bits cut short are too few.
-/
namespace Go.Proofs.YtamnhnleipnhdaaDoor

open Go.RowKit

open BitsM

def adv (s : WS) (D : List (Int × Int)) (R : List Int) : WS := { s with V := R, out := s.out ++ D, got := s.got ++ D.map Prod.fst }
def advB (s : WS) (D : List (Int × Int)) (R : List Bool) : WS := { s with bits := R, out := s.out ++ D, got := s.got ++ D.map Prod.fst }

/-- A run f of the state, with what it leaves as last, that takes the numbers D. -/
structure Pk (f : WS → Int × WS) (last : Int) (D : List (Int × Int)) : Prop where
  fit : ∀ x ∈ D, FitP x
  items : ∀ s R, s.rd = false → s.e = 0 → s.V = D.map Prod.fst ++ R → f s = (last, adv s D R)
  get : ∀ s R, s.rd = true → s.e = 0 → s.bits = laidOf D ++ R → f s = (last, advB s D R)
  cut : ∀ s, s.rd = true → s.e = 0 → s.bits.length < (laidOf D).length → s.bits = (laidOf D).take s.bits.length → (f s).2.e = 10

theorem laid_append (a b : List (Int × Int)) : laidOf (a ++ b) = laidOf a ++ laidOf b := by simp [laidOf]
theorem laid_one (x : Int × Int) : laidOf [x] = wbits x.1.toNat x.2.toNat x.2.toNat := by simp [laidOf]

theorem may_fit (v : Nat) (hv : v < 96) (n : Int) (h : mayOf v n = true) : 0 ≤ n ∧ n < 2 ^ widthOf v := by
  have h1 := List.all_eq_true.1 (show (List.range 96).all (fun v => decide (mostOf (v : Int) < 2 ^ widthOf (v : Int)) && decide (greatestOf (v : Int) < 2 ^ widthOf (v : Int))) = true from by kernel_rfl) v (List.mem_range.2 hv)
  simp only [Bool.and_eq_true, decide_eq_true_eq] at h1
  unfold mayOf at h
  simp only [Bool.and_eq_true, Bool.or_eq_true, decide_eq_true_eq] at h
  omega
theorem fit_may (v : Nat) (hv : v < 96) (n : Int) (h : mayOf v n = true) : FitP (n, (widthOf v : Int)) := by
  have h1 := may_fit v hv n h
  have h2 := width_one v (by omega) (by omega)
  have h3 : (2 : Int) ^ widthOf v ≤ 2 ^ 32 := by
    have : (2 : Nat) ^ widthOf v ≤ 2 ^ 32 := Nat.pow_le_pow_right (by omega) h2.2
    exact_mod_cast this
  exact ⟨h1.1, by omega, by simp only; omega, by simp only; omega⟩

theorem pk_v (v : Nat) (hv : v < 96) (h5 : v ≠ 5) (h7 : v ≠ 7) (n : Int) (h : mayOf v n = true) : Pk (fun s => oneS v s) n [(n, (widthOf v : Int))] := by
  have hf := may_fit v hv n h
  have hl : laidOf [(n, (widthOf v : Int))] = wbits n.toNat (widthOf v) (widthOf v) := by rw [laid_one]; simp
  have hlen : (laidOf [(n, (widthOf v : Int))]).length = widthOf v := by rw [hl, wbits_length]
  have hnum : (num (wbits n.toNat (widthOf v) (widthOf v)) : Int) = n := by
    rw [num_wbits _ _ (by
      have e : ((n.toNat : Nat) : Int) < ((2 ^ widthOf v : Nat) : Int) := by rw [Int.toNat_of_nonneg hf.1]; exact_mod_cast hf.2
      exact_mod_cast e)]
    exact Int.toNat_of_nonneg hf.1
  have k5 : ¬ ((v : Int) = 5) := by omega
  have k7 : ¬ ((v : Int) = 7) := by omega
  have hkeep : ∀ s, keep v n s = { s with got := s.got ++ [n], out := s.out ++ [(n, (widthOf v : Int))] } := fun s => by rw [keep, if_neg k7, if_neg k5]
  refine ⟨?_, ?_, ?_, ?_⟩
  · intro x hx
    simp only [List.mem_singleton] at hx
    subst hx
    exact fit_may v hv n h
  · intro s R hrd he hV
    have hV' : s.V = n :: R := by simpa using hV
    have hfe : fetch v s = (n, { s with V := R }) := by
      rw [fetch, hrd, if_neg (by decide), if_neg k7, hV', if_neg (by simp)]; rfl
    show oneS v s = _
    rw [oneS, if_neg (by omega), hfe, if_neg (by simp only; omega), if_neg (by simp only [h]; decide), hkeep]
    rfl
  · intro s R hrd he hb
    rw [hl] at hb
    have hfe : fetch v s = (n, { s with bits := R }) := by
      have e1 : s.bits.take (widthOf v) = wbits n.toNat (widthOf v) (widthOf v) := by rw [hb]; exact List.take_left' (wbits_length _ _ _)
      have e2 : s.bits.drop (widthOf v) = R := by rw [hb]; exact List.drop_left' (wbits_length _ _ _)
      rw [fetch, hrd, if_pos rfl, if_neg (by rw [hb, List.length_append, wbits_length]; omega), e1, e2, hnum]
    show oneS v s = _
    rw [oneS, if_neg (by omega), hfe, if_neg (by simp only; omega), if_neg (by simp only [h]; decide), hkeep]
    rfl
  · intro s hrd he hlt _
    rw [hlen] at hlt
    have hfe : fetch v s = (0, { s with e := 10 }) := by rw [fetch, hrd, if_pos rfl, if_pos hlt]
    show (oneS v s).2.e = 10
    rw [oneS, if_neg (by omega), hfe, if_pos (by simp only; omega)]

theorem pk_nil (last : Int) : Pk (fun s => (last, s)) last [] := by
  refine ⟨fun x h => (by cases h), ?_, ?_, ?_⟩
  · intro s R _ _ hV
    have e : s.V = R := by simpa using hV
    rw [adv, ← e]; simp
  · intro s R _ _ hb
    have e : s.bits = R := by simpa [laidOf] using hb
    rw [advB, ← e]; simp
  · intro s _ _ h _
    simp [laidOf] at h
/-- One run and then another, that leaves alone what has gone wrong. -/
theorem pk_then {f g : WS → Int × WS} {l1 l2 : Int} {D1 D2 : List (Int × Int)} (h : WS → Int × WS) (hh : ∀ s, s.e = 0 → (f s).1 = l1 → h s = g (f s).2) (hc : ∀ s, s.e = 0 → (f s).2.e ≠ 0 → (h s).2 = (f s).2) (p1 : Pk f l1 D1) (p2 : Pk g l2 D2) : Pk h l2 (D1 ++ D2) := by
  refine ⟨?_, ?_, ?_, ?_⟩
  · intro x hx
    rw [List.mem_append] at hx
    exact hx.elim (p1.fit x) (p2.fit x)
  · intro s R hrd he hV
    rw [List.map_append, List.append_assoc] at hV
    have e1 := p1.items s _ hrd he hV
    rw [hh s he (by rw [e1]), e1]
    show g (adv s D1 (D2.map Prod.fst ++ R)) = _
    rw [p2.items (adv s D1 (D2.map Prod.fst ++ R)) R hrd he rfl]
    simp [adv, List.append_assoc]
  · intro s R hrd he hb
    rw [laid_append, List.append_assoc] at hb
    have e1 := p1.get s _ hrd he hb
    rw [hh s he (by rw [e1]), e1]
    show g (advB s D1 (laidOf D2 ++ R)) = _
    rw [p2.get (advB s D1 (laidOf D2 ++ R)) R hrd he rfl]
    simp [advB, List.append_assoc]
  · intro s hrd he hlt hb
    rw [laid_append] at hlt hb
    rw [List.length_append] at hlt
    by_cases h1 : s.bits.length < (laidOf D1).length
    · have hb1 : s.bits = (laidOf D1).take s.bits.length := by
        rw [List.take_append_of_le_length (by omega)] at hb; exact hb
      have he1 := p1.cut s hrd he h1 hb1
      rw [hc s he (by rw [he1]; decide)]
      exact he1
    · have hb1 : s.bits = laidOf D1 ++ (laidOf D2).take (s.bits.length - (laidOf D1).length) := by
        rw [List.take_append, List.take_of_length_le (by omega)] at hb; exact hb
      have hl : ((laidOf D2).take (s.bits.length - (laidOf D1).length)).length = s.bits.length - (laidOf D1).length := by
        rw [List.length_take]; omega
      have e1 := p1.get s _ hrd he hb1
      rw [hh s he (by rw [e1]), e1]
      exact p2.cut (advB s D1 _) hrd he (by show ((laidOf D2).take _).length < _; rw [hl]; omega) (by
        show (laidOf D2).take _ = (laidOf D2).take ((laidOf D2).take _).length
        rw [hl])

theorem runL_err (b : List Nd) (last : Int) {s : WS} (h : s.e ≠ 0) : runL b last s = s := by
  cases b with
  | nil => rfl
  | cons x l => rw [runL, if_pos h]
theorem repS_err (f : WS → WS) (m : Nat) {s : WS} (h : s.e ≠ 0) : repS f m s = s := by
  cases m with
  | zero => rfl
  | succ m => rw [repS, if_pos h]

mutual
def plainN : Nd → Bool
  | .v n => decide (n < 96) && decide (n ≠ 5) && decide (n ≠ 7)
  | .g _ b => plainL b
def plainL : List Nd → Bool
  | [] => true
  | x :: l => plainN x && plainL l
end

/-- What a run took, whichever it was gone through over. -/
def Took (s : WS) (D : List (Int × Int)) : Prop := (s.rd = false → ∃ R, s.V = D.map Prod.fst ++ R) ∧ (s.rd = true → ∃ R, s.bits = laidOf D ++ R)
theorem took_then {f : WS → Int × WS} {l : Int} {s : WS} {D1 D2 : List (Int × Int)} (p : Pk f l D1) (he : s.e = 0) (h1 : Took s D1) (h2 : Took (f s).2 D2) : Took s (D1 ++ D2) := by
  constructor
  · intro hrd
    obtain ⟨R, hR⟩ := h1.1 hrd
    have e := p.items s R hrd he hR
    rw [e] at h2
    obtain ⟨R2, hR2⟩ := h2.1 hrd
    exact ⟨R2, by rw [hR, show R = _ from hR2, List.map_append, List.append_assoc]⟩
  · intro hrd
    obtain ⟨R, hR⟩ := h1.2 hrd
    have e := p.get s R hrd he hR
    rw [e] at h2
    obtain ⟨R2, hR2⟩ := h2.2 hrd
    exact ⟨R2, by rw [hR, show R = _ from hR2, laid_append, List.append_assoc]⟩
theorem took_nil (s : WS) : Took s [] := ⟨fun _ => ⟨s.V, rfl⟩, fun _ => ⟨s.bits, rfl⟩⟩
theorem took_e {f : WS → Int × WS} {l : Int} {s : WS} {D : List (Int × Int)} (p : Pk f l D) (he : s.e = 0) (h : Took s D) : (f s).2.e = 0 ∧ (f s).1 = l := by
  cases hrd : s.rd
  · obtain ⟨R, hR⟩ := h.1 hrd
    rw [p.items s R hrd he hR]; exact ⟨he, rfl⟩
  · obtain ⟨R, hR⟩ := h.2 hrd
    rw [p.get s R hrd he hR]; exact ⟨he, rfl⟩

theorem one_took (v : Nat) (_hv : v < 96) (_h5 : v ≠ 5) (h7 : v ≠ 7) (s : WS) (he : s.e = 0) (h : (oneS v s).2.e = 0) : ∃ n, mayOf v n = true ∧ (oneS v s).1 = n ∧ Took s [(n, (widthOf v : Int))] := by
  have k7 : ¬ ((v : Int) = 7) := by omega
  rw [oneS, if_neg (by omega)] at h ⊢
  by_cases hf : (fetch v s).2.e ≠ 0
  · rw [if_pos hf] at h; exact absurd h hf
  · rw [if_neg hf] at h ⊢
    by_cases hm : mayOf v (fetch v s).1 = false
    · rw [if_pos hm] at h; exact absurd (show (20 : Int) = 0 from h) (by decide)
    · rw [if_neg hm] at h ⊢
      have hm' : mayOf v (fetch v s).1 = true := by simpa using hm
      refine ⟨_, hm', rfl, ?_, ?_⟩
      · intro hrd
        have e0 : fetch v s = if s.V = [] then (0, { s with e := 20 }) else (s.V.headD 0, { s with V := s.V.tail }) := by rw [fetch, hrd, if_neg (by decide), if_neg k7]
        rw [e0] at hf ⊢
        by_cases hV : s.V = []
        · rw [if_pos hV] at hf; exact absurd (show (20 : Int) ≠ 0 by decide) hf
        · rw [if_neg hV]
          cases hc : s.V with
          | nil => exact absurd hc hV
          | cons a r => exact ⟨r, rfl⟩
      · intro hrd
        have e0 : fetch v s = if s.bits.length < widthOf v then (0, { s with e := 10 }) else (((num (s.bits.take (widthOf v)) : Nat) : Int), { s with bits := s.bits.drop (widthOf v) }) := by rw [fetch, hrd, if_pos rfl]
        rw [e0] at hf ⊢
        by_cases hb : s.bits.length < widthOf v
        · rw [if_pos hb] at hf; exact absurd (show (10 : Int) ≠ 0 by decide) hf
        · rw [if_neg hb]
          refine ⟨s.bits.drop (widthOf v), ?_⟩
          rw [laid_one]
          simp only [Int.toNat_natCast]
          have hlen : (s.bits.take (widthOf v)).length = widthOf v := by rw [List.length_take]; omega
          have hw : wbits (num (s.bits.take (widthOf v))) (widthOf v) (widthOf v) = s.bits.take (widthOf v) := by
            apply List.ext_getElem (by rw [wbits_length, hlen])
            intro i h1 h2
            have g1 := wbits_getD (num (s.bits.take (widthOf v))) (widthOf v) (widthOf v) i (by rw [wbits_length] at h1; exact h1)
            have hi : i < widthOf v := by rw [wbits_length] at h1; exact h1
            rw [num_testBit, hlen, decide_eq_true (by omega), Bool.true_and, show widthOf v - 1 - (widthOf v - 1 - i) = i by omega] at g1
            simpa [List.getD_eq_getElem?_getD, List.getElem?_eq_getElem h1, List.getElem?_eq_getElem h2] using g1
          rw [hw, List.take_append_drop]

theorem rep_took (b : List Nd) (hL : ∀ (last : Int) (s : WS), s.e = 0 → (runL b last s).e = 0 → ∃ D, Pk (fun s => (0, runL b last s)) 0 D ∧ Took s D) :
    ∀ (m : Nat) (s : WS), s.e = 0 → (repS (fun s => runL b 0 s) m s).e = 0 → ∃ D, Pk (fun s => (0, repS (fun s => runL b 0 s) m s)) 0 D ∧ Took s D
  | 0, s, _, _ => ⟨[], pk_nil 0, took_nil s⟩
  | m + 1, s, he, h => by
    rw [repS, if_neg (by omega)] at h
    have h1 : (runL b 0 s).e = 0 := by
      by_cases k : (runL b 0 s).e = 0
      · exact k
      · rw [repS_err _ _ k] at h; exact h
    obtain ⟨D1, p1, t1⟩ := hL 0 s he h1
    obtain ⟨D2, p2, t2⟩ := rep_took b hL m _ h1 h
    exact ⟨D1 ++ D2, pk_then (f := fun s => (0, runL b 0 s)) (g := fun s => (0, repS (fun s => runL b 0 s) m s)) _ (fun s hs _ => by rw [repS, if_neg (by omega)]) (fun s hs h2 => by show repS _ (m + 1) s = _; rw [repS, if_neg (by omega)]; exact repS_err _ _ h2) p1 p2, took_then p1 he t1 t2⟩

theorem run_took : ∀ (N : Nat) (b : List Nd), szL b < N → plainL b = true → ∀ (last : Int) (s : WS), s.e = 0 → (runL b last s).e = 0 → ∃ D, Pk (fun s => (0, runL b last s)) 0 D ∧ Took s D
  | 0, _, h, _, _, _, _, _ => by omega
  | N + 1, [], _, _, last, s, _, _ => ⟨[], pk_nil 0, took_nil s⟩
  | N + 1, x :: l, hN, hp, last, s, he, h => by
    rw [plainL, Bool.and_eq_true] at hp
    rw [runL, if_neg (by omega)] at h
    have h1 : (runN x last s).2.e = 0 := by
      by_cases k : (runN x last s).2.e = 0
      · exact k
      · rw [runL_err _ _ k] at h; exact h
    have hx : ∃ l1 D1, Pk (fun s => runN x last s) l1 D1 ∧ Took s D1 := by
      cases x with
      | v n =>
        have hq := hp.1
        rw [plainN, Bool.and_eq_true, Bool.and_eq_true, decide_eq_true_eq, decide_eq_true_eq, decide_eq_true_eq] at hq
        obtain ⟨k, hm, _, ht⟩ := one_took n hq.1.1 hq.1.2 hq.2 s he h1
        exact ⟨k, _, pk_v n hq.1.1 hq.1.2 hq.2 k hm, ht⟩
      | g k b =>
        obtain ⟨D, pd, td⟩ := rep_took b (fun last s he h => run_took N b (by have : szL (Nd.g k b :: l) = szL b + 1 + szL l ∨ True := .inr trivial; simp only [szL, szN] at hN; omega) hp.1 last s he h) (many k last) s he h1
        refine ⟨last, D, ⟨pd.fit, ?_, ?_, ?_⟩, td⟩
        · intro s R a1 a2 a3
          have := pd.items s R a1 a2 a3
          simp only [Prod.mk.injEq] at this
          show (last, repS _ _ _) = _
          rw [this.2]
        · intro s R a1 a2 a3
          have := pd.get s R a1 a2 a3
          simp only [Prod.mk.injEq] at this
          show (last, repS _ _ _) = _
          rw [this.2]
        · intro s a1 a2 a3 a4
          exact pd.cut s a1 a2 a3 a4
    obtain ⟨l1, D1, p1, t1⟩ := hx
    have hl1 := (took_e p1 he t1).2
    rw [hl1] at h
    have hz : 0 < szN x := by
      cases x <;> simp only [szN] <;> omega
    obtain ⟨D2, p2, t2⟩ := run_took N l (by simp only [szL] at hN; omega) hp.2 l1 _ h1 h
    refine ⟨D1 ++ D2, pk_then (f := fun s => runN x last s) (g := fun s => (0, runL l l1 s)) _ ?_ ?_ p1 p2, took_then p1 he t1 t2⟩
    · intro s hs h2
      have h3 : (runN x last s).1 = l1 := h2
      rw [runL, if_neg (by omega), h3]
    · intro s hs h2
      show runL (x :: l) last s = _
      rw [runL, if_neg (by omega)]
      exact runL_err _ _ h2
end Go.Proofs.YtamnhnleipnhdaaDoor

/-
  A whole packet's tree: numbers and bits.
-/
namespace Go.Proofs.YtamnhnleipnhdaaDoor

open Go.RowKit

open BitsM

theorem known_cases {id : Int} (h : knownB id = true) : id = 0 ∨ id = 1 ∨ id = 3 ∨ id = 5 ∨ id = 11 ∨ id = 15 ∨ id = 21 ∨ id = 27 ∨ id = 42 ∨ id = 57 ∨ id = 58 ∨ id = 80 := by
  unfold knownB at h
  simp only [Bool.or_eq_true, decide_eq_true_eq] at h
  omega
/-- What is asked of a packet's table. -/
structure Shape (id : Int) (pre : List Nd) (a : Nat) (post : List Nd) : Prop where
  ast : astOf id = pre ++ .v 7 :: .v a :: post
  pre : pre = [] ∨ pre = [.v 6]
  plain : plainL (.v a :: post) = true
  words : wordsOf (gramOf id) = wordsL (astOf id)
  size : (gramOf id).size ≤ 65536
  good : goodL (astOf id) = true
  seven : c7 (astOf id) = 1
  may : mayOf 5 id = true
theorem shape_of {id : Int} (h : knownB id = true) : ∃ pre a post, Shape id pre a post := by
  rcases known_cases h with rfl | rfl | rfl | rfl | rfl | rfl | rfl | rfl | rfl | rfl | rfl | rfl
  · exact ⟨[], 8, [.v 4, .v 13, .v 14, .v 15, .v 16, .v 17, .v 18, .g 2 [.v 19], .v 20, .v 21, .v 22, .v 23, .g 1 [.v 24]], rfl, .inl rfl, by kernel_rfl, words0, Nat.le_of_ble_eq_true (by kernel_rfl), by kernel_rfl, by kernel_rfl, by kernel_rfl⟩
  · exact ⟨[], 8, [.v 4, .v 74, .v 13, .v 14, .v 15, .v 16, .v 17, .v 18, .g 2 [.v 19], .v 20, .v 21, .v 22, .v 23, .g 1 [.v 24]], rfl, .inl rfl, by kernel_rfl, words1, Nat.le_of_ble_eq_true (by kernel_rfl), by kernel_rfl, by kernel_rfl, by kernel_rfl⟩
  · exact ⟨[.v 6], 8, [.v 84, .v 27, .g 0 [.v 10], .v 85, .v 87, .v 86], rfl, .inr rfl, by kernel_rfl, words3, Nat.le_of_ble_eq_true (by kernel_rfl), by kernel_rfl, by kernel_rfl, by kernel_rfl⟩
  · exact ⟨[.v 6], 8, [.v 44, .v 12, .g 1 [.v 10], .v 11, .v 45, .v 46, .v 47, .v 27, .g 0 [.v 44, .v 12, .g 1 [.v 10], .v 11, .v 45, .v 46, .v 47]], rfl, .inr rfl, by kernel_rfl, words5, Nat.le_of_ble_eq_true (by kernel_rfl), by kernel_rfl, by kernel_rfl, by kernel_rfl⟩
  · exact ⟨[], 75, [.v 76, .v 77, .v 78, .v 79, .v 80, .v 81, .v 27, .g 0 [.v 82], .v 27, .g 0 [.v 83]], rfl, .inl rfl, by kernel_rfl, words11, Nat.le_of_ble_eq_true (by kernel_rfl), by kernel_rfl, by kernel_rfl, by kernel_rfl⟩
  · exact ⟨[.v 6], 8, [.v 25, .v 26, .v 27, .g 0 [.v 28, .v 29, .g 1 [.v 30, .v 31]], .v 32, .v 29, .g 1 [.v 30, .v 31], .v 33, .g 1 [.v 34, .v 35], .v 36, .g 1 [.v 37, .v 38], .v 39, .g 1 [.v 40, .v 41, .v 42, .v 43]], rfl, .inr rfl, by kernel_rfl, words15, Nat.le_of_ble_eq_true (by kernel_rfl), by kernel_rfl, by kernel_rfl, by kernel_rfl⟩
  · exact ⟨[.v 6], 8, [.v 48, .v 49, .v 50, .v 27, .g 0 [.v 48, .v 49, .v 50]], rfl, .inr rfl, by kernel_rfl, words21, Nat.le_of_ble_eq_true (by kernel_rfl), by kernel_rfl, by kernel_rfl, by kernel_rfl⟩
  · exact ⟨[.v 6], 8, [.v 51, .v 52, .v 53, .v 27, .g 0 [.v 54, .v 55], .v 27, .g 0 [.v 51, .v 52, .v 53, .v 27, .g 0 [.v 54, .v 55]]], rfl, .inr rfl, by kernel_rfl, words27, Nat.le_of_ble_eq_true (by kernel_rfl), by kernel_rfl, by kernel_rfl, by kernel_rfl⟩
  · exact ⟨[.v 6], 62, [.v 10, .v 63, .v 64, .v 64, .v 65], rfl, .inr rfl, by kernel_rfl, words42, Nat.le_of_ble_eq_true (by kernel_rfl), by kernel_rfl, by kernel_rfl, by kernel_rfl⟩
  · exact ⟨[.v 6], 66, [.v 67, .v 68], rfl, .inr rfl, by kernel_rfl, words57, Nat.le_of_ble_eq_true (by kernel_rfl), by kernel_rfl, by kernel_rfl, by kernel_rfl⟩
  · exact ⟨[.v 6], 8, [.v 69, .v 70, .v 71, .v 27, .g 0 [.v 72, .v 73]], rfl, .inr rfl, by kernel_rfl, words58, Nat.le_of_ble_eq_true (by kernel_rfl), by kernel_rfl, by kernel_rfl, by kernel_rfl⟩
  · exact ⟨[.v 6], 8, [.v 56, .v 57, .v 58, .v 59, .v 60, .v 61, .v 27, .g 0 [.v 56, .v 57, .v 58, .v 59, .v 60, .v 61]], rfl, .inr rfl, by kernel_rfl, words80, Nat.le_of_ble_eq_true (by kernel_rfl), by kernel_rfl, by kernel_rfl, by kernel_rfl⟩

theorem w7 : widthOf 7 = 13 := by kernel_rfl
theorem w5 : widthOf 5 = 8 := by kernel_rfl
theorem may70 : mayOf 7 0 = true := by kernel_rfl
theorem run_last (a : Nat) (l : List Nd) (last : Int) (s : WS) : runL (.v a :: l) last s = runL (.v a :: l) 0 s := by
  rw [runL, runL, runN, runN]

/-- The length's place: over numbers, over bits. -/
theorem seven_items {s : WS} (hrd : s.rd = false) (he : s.e = 0) : oneS 7 s = (0, { s with place := s.out.length, out := s.out ++ [(0, 13)] }) := by
  have hf : fetch 7 s = (0, s) := by rw [fetch, hrd, if_neg (by decide), if_pos rfl]
  rw [oneS, if_neg (by omega), hf, if_neg (by simp only; omega), if_neg (by simp only [may70]; decide), keep, if_pos rfl, w7]; rfl
theorem seven_get {s : WS} {n : Int} {R : List Bool} (hrd : s.rd = true) (he : s.e = 0) (hm : mayOf 7 n = true) (hb : s.bits = laidOf [(n, 13)] ++ R) : oneS 7 s = (n, { s with bits := R, place := s.out.length, out := s.out ++ [(n, 13)] }) := by
  have hn := may_fit 7 (by decide) n hm
  rw [show widthOf ((7 : Nat) : Int) = 13 from w7] at hn
  have hl : laidOf [(n, 13)] = wbits n.toNat 13 13 := by rw [laid_one]; rfl
  rw [hl] at hb
  have hnum : (num (wbits n.toNat 13 13) : Int) = n := by
    rw [num_wbits _ _ (by omega)]
    exact Int.toNat_of_nonneg hn.1
  have hf : fetch 7 s = (n, { s with bits := R }) := by
    have e1 : s.bits.take 13 = wbits n.toNat 13 13 := by rw [hb]; exact List.take_left' (wbits_length _ _ _)
    have e2 : s.bits.drop 13 = R := by rw [hb]; exact List.drop_left' (wbits_length _ _ _)
    rw [fetch, hrd, if_pos rfl, w7, if_neg (by rw [hb, List.length_append, wbits_length]; omega), e1, e2, hnum]
  rw [oneS, if_neg (by omega), hf, if_neg (by simp only; omega), if_neg (by simp only [hm]; decide), keep, if_pos rfl, w7]; rfl
theorem seven_cut {s : WS} (hrd : s.rd = true) (he : s.e = 0) (hb : s.bits.length < 13) : (oneS 7 s).2.e = 10 := by
  have hf : fetch 7 s = (0, { s with e := 10 }) := by rw [fetch, hrd, if_pos rfl, w7, if_pos hb]
  rw [oneS, if_neg (by omega), hf, if_pos (by simp only; omega)]
theorem seven_took {s : WS} (he : s.e = 0) (h : (oneS 7 s).2.e = 0) (hrd : s.rd = true) : ∃ n R, mayOf 7 n = true ∧ s.bits = laidOf [(n, 13)] ++ R := by
  rw [oneS, if_neg (by omega)] at h
  have e0 : fetch 7 s = if s.bits.length < 13 then (0, { s with e := 10 }) else (((num (s.bits.take 13) : Nat) : Int), { s with bits := s.bits.drop 13 }) := by rw [fetch, hrd, if_pos rfl, w7]
  by_cases hb : s.bits.length < 13
  · rw [e0, if_pos hb, if_pos (by simp only; omega)] at h; exact absurd (show (10 : Int) = 0 from h) (by decide)
  · rw [if_neg hb] at e0
    rw [e0, if_neg (by simp only; omega)] at h
    by_cases hm : mayOf 7 ((num (s.bits.take 13) : Nat) : Int) = true
    · refine ⟨_, s.bits.drop 13, hm, ?_⟩
      rw [laid_one]
      simp only [Int.toNat_natCast]
      have hlen : (s.bits.take 13).length = 13 := by rw [List.length_take]; omega
      have hw : wbits (num (s.bits.take 13)) 13 13 = s.bits.take 13 := by
        apply List.ext_getElem (by rw [wbits_length, hlen])
        intro i h1 h2
        have hi : i < 13 := by rw [wbits_length] at h1; exact h1
        have g1 := wbits_getD (num (s.bits.take 13)) 13 13 i hi
        rw [num_testBit, hlen, decide_eq_true (by omega), Bool.true_and, show 13 - 1 - (13 - 1 - i) = i by omega] at g1
        simpa [List.getD_eq_getElem?_getD, List.getElem?_eq_getElem h1, List.getElem?_eq_getElem h2] using g1
      show s.bits = wbits (num (s.bits.take 13)) 13 13 ++ s.bits.drop 13
      rw [hw, List.take_append_drop]
    · rw [if_pos (by simpa using hm)] at h; exact absurd (show (20 : Int) = 0 from h) (by decide)

/-- A packet's numbers: ahead of the length, behind it. -/
structure Wh (id : Int) (D1 D2 : List (Int × Int)) : Prop where
  fit : ∀ x ∈ D1 ++ D2, FitP x
  items : ∀ s R, s.rd = false → s.e = 0 → s.V = (D1 ++ D2).map Prod.fst ++ R → runL (astOf id) 0 s = { s with V := R, out := s.out ++ D1 ++ (0, 13) :: D2, got := s.got ++ (D1 ++ D2).map Prod.fst, place := (s.out ++ D1).length }
  get : ∀ s R n, s.rd = true → s.e = 0 → mayOf 7 n = true → s.bits = laidOf (D1 ++ (n, 13) :: D2) ++ R → runL (astOf id) 0 s = { s with bits := R, out := s.out ++ D1 ++ (n, 13) :: D2, got := s.got ++ (D1 ++ D2).map Prod.fst, place := (s.out ++ D1).length }
  cut : ∀ s n, s.rd = true → s.e = 0 → mayOf 7 n = true → s.bits.length < (laidOf (D1 ++ (n, 13) :: D2)).length → s.bits = (laidOf (D1 ++ (n, 13) :: D2)).take s.bits.length → (runL (astOf id) 0 s).e = 10
end Go.Proofs.YtamnhnleipnhdaaDoor

/-
  What linesideref05.Items and Get answer, as functions; each is the other's way back.
-/
namespace Go.Proofs.YtamnhnleipnhdaaDoor

open Go.RowKit

open BitsM

theorem run_pre {pre : List Nd} {a : Nat} {post : List Nd} (hp : pre = [] ∨ pre = [.v 6]) (s : WS) (he : s.e = 0) :
    runL (pre ++ .v 7 :: .v a :: post) 0 s = if (runL pre 0 s).e ≠ 0 then runL pre 0 s else runL (.v a :: post) 0 (oneS 7 (runL pre 0 s)).2 := by
  have h7 : ∀ last t, runL (.v 7 :: .v a :: post) last t = if t.e ≠ 0 then t else runL (.v a :: post) 0 (oneS 7 t).2 := by
    intro last t
    rw [runL, runN]
    split
    · rfl
    · exact run_last a post _ _
  rcases hp with rfl | rfl
  · exact h7 0 s
  · have e1 : runL [.v 6] 0 s = (oneS 6 s).2 := by rw [runL, if_neg (by omega), runN, runL]; rfl
    show runL (.v 6 :: (.v 7 :: .v a :: post)) 0 s = _
    rw [e1, runL, if_neg (by omega), runN]
    exact h7 _ _

theorem wh_make {id : Int} {pre : List Nd} {a : Nat} {post : List Nd} {D1 D2 : List (Int × Int)} (sh : Shape id pre a post) (p1 : Pk (fun s => (0, runL pre 0 s)) 0 D1) (p2 : Pk (fun s => (0, runL (.v a :: post) 0 s)) 0 D2) : Wh id D1 D2 := by
  have ei : ∀ s R, s.rd = false → s.e = 0 → s.V = D1.map Prod.fst ++ R → runL pre 0 s = adv s D1 R := fun s R h1 h2 h3 => congrArg Prod.snd (p1.items s R h1 h2 h3)
  have eg : ∀ s R, s.rd = true → s.e = 0 → s.bits = laidOf D1 ++ R → runL pre 0 s = advB s D1 R := fun s R h1 h2 h3 => congrArg Prod.snd (p1.get s R h1 h2 h3)
  have fi : ∀ s R, s.rd = false → s.e = 0 → s.V = D2.map Prod.fst ++ R → runL (.v a :: post) 0 s = adv s D2 R := fun s R h1 h2 h3 => congrArg Prod.snd (p2.items s R h1 h2 h3)
  have fg : ∀ s R, s.rd = true → s.e = 0 → s.bits = laidOf D2 ++ R → runL (.v a :: post) 0 s = advB s D2 R := fun s R h1 h2 h3 => congrArg Prod.snd (p2.get s R h1 h2 h3)
  have e3 : ∀ n, laidOf (D1 ++ (n, 13) :: D2) = laidOf D1 ++ (laidOf [(n, 13)] ++ laidOf D2) := fun n => by
    rw [show D1 ++ (n, (13 : Int)) :: D2 = D1 ++ ([(n, 13)] ++ D2) from rfl, laid_append, laid_append]
  refine ⟨?_, ?_, ?_, ?_⟩
  · intro x hx
    rw [List.mem_append] at hx
    exact hx.elim (p1.fit x) (p2.fit x)
  · intro s R hrd he hV
    rw [List.map_append, List.append_assoc] at hV
    rw [sh.ast, run_pre sh.pre s he, ei s _ hrd he hV, if_neg (show ¬ (adv s D1 (D2.map Prod.fst ++ R)).e ≠ 0 from fun k => k he), seven_items (s := adv s D1 _) hrd he]
    refine Eq.trans (fi _ R ?_ ?_ ?_) ?_
    · exact hrd
    · exact he
    · rfl
    simp [adv, List.append_assoc]
  · intro s R n hrd he hm hb
    rw [e3, List.append_assoc, List.append_assoc] at hb
    rw [sh.ast, run_pre sh.pre s he, eg s _ hrd he hb, if_neg (show ¬ (advB s D1 (laidOf [(n, 13)] ++ (laidOf D2 ++ R))).e ≠ 0 from fun k => k he), seven_get (s := advB s D1 _) (R := laidOf D2 ++ R) hrd he hm rfl]
    refine Eq.trans (fg _ R ?_ ?_ ?_) ?_
    · exact hrd
    · exact he
    · rfl
    simp [advB, List.append_assoc]
  · intro s n hrd he hm hlt hb
    rw [e3] at hlt hb
    rw [List.length_append] at hlt
    rw [sh.ast, run_pre sh.pre s he]
    by_cases h1 : s.bits.length < (laidOf D1).length
    · have hb1 : s.bits = (laidOf D1).take s.bits.length := by
        rw [List.take_append_of_le_length (by omega)] at hb; exact hb
      have he1 : (runL pre 0 s).e = 10 := p1.cut s hrd he h1 hb1
      rw [if_pos (by rw [he1]; decide)]
      exact he1
    · obtain ⟨B, hB⟩ : ∃ B, (laidOf [(n, 13)] ++ laidOf D2).take (s.bits.length - (laidOf D1).length) = B := ⟨_, rfl⟩
      have hb1 : s.bits = laidOf D1 ++ B := by
        rw [List.take_append, List.take_of_length_le (by omega), hB] at hb; exact hb
      have hBl : B.length = s.bits.length - (laidOf D1).length := by
        rw [← hB, List.length_take]; omega
      have h13 : (laidOf [(n, 13)]).length = 13 := by rw [laid_one, wbits_length]; rfl
      rw [eg s B hrd he hb1, if_neg (show ¬ (advB s D1 B).e ≠ 0 from fun k => k he)]
      rw [List.length_append] at hlt
      by_cases h2 : B.length < 13
      · have he7 := seven_cut (s := advB s D1 B) hrd he h2
        rw [runL_err _ _ (by rw [he7]; decide)]
        exact he7
      · obtain ⟨C, hC⟩ : ∃ C, (laidOf D2).take (B.length - 13) = C := ⟨_, rfl⟩
        have hB2 : B = laidOf [(n, 13)] ++ C := by
          rw [← hB, List.take_append, List.take_of_length_le (by omega), h13, ← hBl, hC]
        have hCl : C.length = B.length - 13 := by rw [← hC, List.length_take]; omega
        rw [seven_get (s := advB s D1 B) (R := C) hrd he hm hB2]
        exact p2.cut _ hrd he (by show C.length < _; omega) (by show C = (laidOf D2).take C.length; rw [hCl, hC])

theorem wh_of_run {id : Int} (hk : knownB id = true) {s : WS} (he : s.e = 0) (h : (runL (astOf id) 0 s).e = 0) :
    ∃ D1 D2, Wh id D1 D2 ∧ (s.rd = false → ∃ R, s.V = (D1 ++ D2).map Prod.fst ++ R) ∧ (s.rd = true → ∃ n R, mayOf 7 n = true ∧ s.bits = laidOf (D1 ++ (n, 13) :: D2) ++ R) := by
  obtain ⟨pre, a, post, sh⟩ := shape_of hk
  rw [sh.ast, run_pre sh.pre s he] at h
  have h1 : (runL pre 0 s).e = 0 := by
    by_cases k : (runL pre 0 s).e = 0
    · exact k
    · rw [if_pos k] at h; exact absurd h k
  rw [if_neg (by omega)] at h
  have hpp : plainL pre = true := by rcases sh.pre with rfl | rfl <;> rfl
  obtain ⟨D1, p1, t1⟩ := run_took _ pre (Nat.lt_succ_self _) hpp 0 s he h1
  have h7 : (oneS 7 (runL pre 0 s)).2.e = 0 := by
    by_cases k : (oneS 7 (runL pre 0 s)).2.e = 0
    · exact k
    · rw [runL_err _ _ k] at h; exact absurd h k
  obtain ⟨D2, p2, t2⟩ := run_took _ (.v a :: post) (Nat.lt_succ_self _) sh.plain 0 _ h7 h
  refine ⟨D1, D2, wh_make sh p1 p2, ?_, ?_⟩
  · intro hrd
    obtain ⟨R, hR⟩ := t1.1 hrd
    have e1 : runL pre 0 s = adv s D1 R := congrArg Prod.snd (p1.items s R hrd he hR)
    rw [e1, seven_items (s := adv s D1 R) hrd he] at t2
    obtain ⟨R2, hR2⟩ := t2.1 hrd
    exact ⟨R2, by rw [hR, show R = _ from hR2, List.map_append, List.append_assoc]⟩
  · intro hrd
    obtain ⟨R, hR⟩ := t1.2 hrd
    have e1 : runL pre 0 s = advB s D1 R := congrArg Prod.snd (p1.get s R hrd he hR)
    rw [e1] at h7 t2
    obtain ⟨n, R2, hm, hb2⟩ := seven_took (s := advB s D1 R) he h7 hrd
    rw [seven_get (s := advB s D1 R) (R := R2) hrd he hm hb2] at t2
    obtain ⟨R3, hR3⟩ := t2.2 hrd
    refine ⟨n, R3, hm, ?_⟩
    rw [show D1 ++ (n, (13 : Int)) :: D2 = D1 ++ ([(n, 13)] ++ D2) from rfl, laid_append, laid_append, hR, show R = _ from hb2, show R2 = _ from hR3]
    simp [List.append_assoc]

def startS (id : Int) (V : List Int) : WS := ⟨V, false, [], [(id, 8)], [], 0, 0⟩
/-- What linesideref05.Items answers. -/
def itemsF (id : Int) (V : List Int) : List (Int × Int) × Int :=
  if knownB id = false then ([], 50) else
  if (runL (astOf id) 0 (startS id V)).e ≠ 0 then ([], (runL (astOf id) 0 (startS id V)).e) else
  if (runL (astOf id) 0 (startS id V)).V ≠ [] then ([], 20) else
  if 8184 < totalOf (runL (astOf id) 0 (startS id V)).out then ([], 2) else
  ((runL (astOf id) 0 (startS id V)).out.set (runL (astOf id) 0 (startS id V)).place.toNat (totalOf (runL (astOf id) 0 (startS id V)).out, 13), 0)
def startG (bits : List Bool) : WS := ⟨[], true, bits, [], [], 0, 0⟩
/-- What linesideref05.Get answers. -/
def getF (bits : List Bool) (at_ : Int) : (Int × List Int) × Int × Int :=
  if at_ < 0 ∨ (bits.length : Int) < at_ then ((0, []), 0, 1) else
  if (oneS 5 (startG (bits.drop at_.toNat))).2.e ≠ 0 then ((0, []), 0, (oneS 5 (startG (bits.drop at_.toNat))).2.e) else
  if knownB (oneS 5 (startG (bits.drop at_.toNat))).1 = false then ((0, []), 0, 50) else
  if (runL (astOf (oneS 5 (startG (bits.drop at_.toNat))).1) 0 (oneS 5 (startG (bits.drop at_.toNat))).2).e ≠ 0 then ((0, []), 0, (runL (astOf (oneS 5 (startG (bits.drop at_.toNat))).1) 0 (oneS 5 (startG (bits.drop at_.toNat))).2).e) else
  if ((runL (astOf (oneS 5 (startG (bits.drop at_.toNat))).1) 0 (oneS 5 (startG (bits.drop at_.toNat))).2).out.getD (runL (astOf (oneS 5 (startG (bits.drop at_.toNat))).1) 0 (oneS 5 (startG (bits.drop at_.toNat))).2).place.toNat (0, 0)).1 ≠ totalOf (runL (astOf (oneS 5 (startG (bits.drop at_.toNat))).1) 0 (oneS 5 (startG (bits.drop at_.toNat))).2).out then ((0, []), 0, 20) else
  if 8184 < totalOf (runL (astOf (oneS 5 (startG (bits.drop at_.toNat))).1) 0 (oneS 5 (startG (bits.drop at_.toNat))).2).out then ((0, []), 0, 2) else
  (((oneS 5 (startG (bits.drop at_.toNat))).1, (runL (astOf (oneS 5 (startG (bits.drop at_.toNat))).1) 0 (oneS 5 (startG (bits.drop at_.toNat))).2).got), at_ + totalOf (runL (astOf (oneS 5 (startG (bits.drop at_.toNat))).1) 0 (oneS 5 (startG (bits.drop at_.toNat))).2).out, 0)

theorem total_append (a b : List (Int × Int)) : totalOf (a ++ b) = totalOf a + totalOf b := by
  have h : ∀ (l : List (Int × Int)) (n : Int), l.foldl (fun n x => n + x.2) n = n + totalOf l := by
    intro l
    induction l with
    | nil => intro n; simp [totalOf]
    | cons x l ih =>
      intro n
      have e : totalOf (x :: l) = l.foldl (fun n x => n + x.2) (0 + x.2) := rfl
      rw [List.foldl_cons, ih, e, ih]; omega
  rw [totalOf, List.foldl_append, h, ← totalOf]
theorem total_cons (x : Int × Int) (l : List (Int × Int)) : totalOf (x :: l) = x.2 + totalOf l := by
  rw [show x :: l = [x] ++ l from rfl, total_append]; simp [totalOf]
theorem laid_total {l : List (Int × Int)} (h : ∀ x ∈ l, 1 ≤ x.2) : ((laidOf l).length : Int) = totalOf l := by
  induction l with
  | nil => rfl
  | cons x l ih =>
    have h1 := h x (by simp)
    rw [total_cons, ← ih (fun y hy => h y (by simp [hy])), show x :: l = [x] ++ l from rfl, laid_append, laid_one, List.length_append, wbits_length]
    omega

/-- What Items answers where nothing is wrong. -/
theorem items_form {id : Int} {V : List Int} (hk : knownB id = true) (h : (runL (astOf id) 0 (startS id V)).e = 0) :
    ∃ D1 D2 R, Wh id D1 D2 ∧ V = (D1 ++ D2).map Prod.fst ++ R ∧ runL (astOf id) 0 (startS id V) = { startS id V with V := R, out := [(id, 8)] ++ D1 ++ (0, 13) :: D2, got := (D1 ++ D2).map Prod.fst, place := ([(id, (8 : Int))] ++ D1).length } := by
  obtain ⟨D1, D2, w, hi, _⟩ := wh_of_run hk (s := startS id V) rfl h
  obtain ⟨R, hR⟩ := hi rfl
  exact ⟨D1, D2, R, w, hR, w.items (startS id V) R rfl rfl hR⟩
theorem set_mid (id : Int) (D1 D2 : List (Int × Int)) (x y : Int × Int) : ([(id, (8 : Int))] ++ D1 ++ x :: D2).set ([(id, (8 : Int))] ++ D1).length y = [(id, 8)] ++ D1 ++ y :: D2 := by
  rw [List.set_append, if_neg (by omega), Nat.sub_self]; rfl
theorem total_mid (id n : Int) (D1 D2 : List (Int × Int)) : totalOf ([(id, (8 : Int))] ++ D1 ++ (n, (13 : Int)) :: D2) = 21 + totalOf D1 + totalOf D2 := by
  rw [total_append, total_append, total_cons, total_cons]
  simp only [totalOf, List.foldl_nil]; omega
/-- A packet that has an answer: its numbers, its size. -/
theorem items_ok {id : Int} {V : List Int} {O : List (Int × Int)} (h : itemsF id V = (O, 0)) :
    knownB id = true ∧ ∃ D1 D2, Wh id D1 D2 ∧ V = (D1 ++ D2).map Prod.fst ∧ O = [(id, 8)] ++ D1 ++ (totalOf O, 13) :: D2 ∧ totalOf O ≤ 8184 := by
  unfold itemsF at h
  by_cases hk : knownB id = false
  · rw [if_pos hk] at h; simp at h
  · rw [if_neg hk] at h
    have hk' : knownB id = true := by simpa using hk
    refine ⟨hk', ?_⟩
    by_cases he : (runL (astOf id) 0 (startS id V)).e ≠ 0
    · rw [if_pos he] at h
      simp only [Prod.mk.injEq] at h
      exact absurd h.2 he
    · rw [if_neg he] at h
      obtain ⟨D1, D2, R, w, hV, hr⟩ := items_form (V := V) hk' (by omega)
      rw [hr] at h
      by_cases hR : R ≠ []
      · rw [if_pos hR] at h; simp at h
      · rw [if_neg hR] at h
        have hR' : R = [] := by simpa using hR
        subst hR'
        simp only [total_mid] at h
        by_cases ht : 8184 < 21 + totalOf D1 + totalOf D2
        · rw [if_pos ht] at h; simp at h
        · rw [if_neg ht] at h
          simp only [Int.toNat_natCast, set_mid, Prod.mk.injEq, and_true] at h
          refine ⟨D1, D2, w, by simpa using hV, ?_, ?_⟩
          · rw [← h, total_mid]
          · rw [← h, total_mid]; omega
theorem out_fit {id : Int} {D1 D2 : List (Int × Int)} {n : Int} (w : Wh id D1 D2) (h0 : 0 ≤ id) (h1 : id < 256) (hn0 : 0 ≤ n) (hn : n < 8192) : ∀ x ∈ [(id, (8 : Int))] ++ D1 ++ (n, (13 : Int)) :: D2, FitP x := by
  intro x hx
  simp only [List.append_assoc, List.mem_append, List.mem_cons, List.not_mem_nil, or_false] at hx
  rcases hx with rfl | hx | rfl | hx
  · exact ⟨h0, by simp only; omega, by simp only; omega, by simp only; omega⟩
  · exact w.fit x (List.mem_append_left _ hx)
  · exact ⟨hn0, by simp only; omega, by simp only; omega, by simp only; omega⟩
  · exact w.fit x (List.mem_append_right _ hx)
end Go.Proofs.YtamnhnleipnhdaaDoor

/-
  Items and Get: each is the other's way back; bits cut short are too few.
-/
namespace Go.Proofs.YtamnhnleipnhdaaDoor

open Go.RowKit

open BitsM

theorem num_take (w : Nat) (b : List Bool) (h : w ≤ b.length) : b = laidOf [(((num (b.take w) : Nat) : Int), (w : Int))] ++ b.drop w := by
  rw [laid_one]
  simp only [Int.toNat_natCast]
  have hlen : (b.take w).length = w := by rw [List.length_take]; omega
  have hw : wbits (num (b.take w)) w w = b.take w := by
    apply List.ext_getElem (by rw [wbits_length, hlen])
    intro i h1 h2
    have hi : i < w := by rw [wbits_length] at h1; exact h1
    have g1 := wbits_getD (num (b.take w)) w w i hi
    rw [num_testBit, hlen, decide_eq_true (by omega), Bool.true_and, show w - 1 - (w - 1 - i) = i by omega] at g1
    simpa [List.getD_eq_getElem?_getD, List.getElem?_eq_getElem h1, List.getElem?_eq_getElem h2] using g1
  rw [hw, List.take_append_drop]

theorem sg0 (b : List Bool) : ¬ (startG b).e ≠ 0 := fun h => h rfl
theorem ss0 (id : Int) (V : List Int) : ¬ (startS id V).e ≠ 0 := fun h => h rfl
theorem five_fetch (b : List Bool) : fetch 5 (startG b) = if b.length < 8 then (0, { startG b with e := 10 }) else (((num (b.take 8) : Nat) : Int), { startG b with bits := b.drop 8 }) := by
  rw [fetch, show (startG b).rd = true from rfl, if_pos rfl, w5]; rfl
theorem five_cut {b : List Bool} (h : b.length < 8) : (oneS 5 (startG b)).2.e = 10 := by
  rw [oneS, if_neg (sg0 b), five_fetch, if_pos h, if_pos (show (10 : Int) ≠ 0 by decide)]
theorem five_ok {b : List Bool} {id : Int} {R : List Bool} (hm : mayOf 5 id = true) (hb : b = laidOf [(id, 8)] ++ R) : oneS 5 (startG b) = (id, { startG b with bits := R, out := [(id, 8)] }) := by
  have hn := may_fit 5 (by decide) id hm
  rw [show widthOf ((5 : Nat) : Int) = 8 from w5] at hn
  have hl : laidOf [(id, 8)] = wbits id.toNat 8 8 := by rw [laid_one]; rfl
  rw [hl] at hb
  have hnum : (num (wbits id.toNat 8 8) : Int) = id := by
    rw [num_wbits _ _ (by omega)]
    exact Int.toNat_of_nonneg hn.1
  have e1 : b.take 8 = wbits id.toNat 8 8 := by rw [hb]; exact List.take_left' (wbits_length _ _ _)
  have e2 : b.drop 8 = R := by rw [hb]; exact List.drop_left' (wbits_length _ _ _)
  have hf : fetch 5 (startG b) = (id, { startG b with bits := R }) := by
    rw [five_fetch, if_neg (by rw [hb, List.length_append, wbits_length]; omega), e1, e2, hnum]
  have hk : ∀ s, keep 5 id s = { s with out := s.out ++ [(id, 8)] } := fun s => by rw [keep, if_neg (by decide), if_pos rfl, w5]; rfl
  rw [oneS, if_neg (sg0 b), hf, if_neg (sg0 b), if_neg (by simp only [hm]; decide), hk]
  rfl
theorem five_took {b : List Bool} (h : (oneS 5 (startG b)).2.e = 0) : ∃ id R, mayOf 5 id = true ∧ b = laidOf [(id, 8)] ++ R := by
  by_cases hb : b.length < 8
  · rw [five_cut hb] at h; exact absurd h (by decide)
  · have e0 := five_fetch b
    rw [if_neg hb] at e0
    rw [oneS, if_neg (sg0 b), e0, if_neg (sg0 b)] at h
    by_cases hm : mayOf 5 ((num (b.take 8) : Nat) : Int) = true
    · exact ⟨_, _, hm, num_take 8 b (by omega)⟩
    · rw [if_pos (by simpa using hm)] at h; exact absurd (show (20 : Int) = 0 from h) (by decide)
theorem may7 {n : Int} (h0 : 0 ≤ n) (h1 : n ≤ 8184) : mayOf 7 n = true := by
  have e : mostOf 7 = 8191 := by kernel_rfl
  unfold mayOf
  rw [e]
  simp only [Bool.and_eq_true, Bool.or_eq_true, decide_eq_true_eq]
  omega
theorem known_id {id : Int} (h : knownB id = true) : 0 ≤ id ∧ id < 256 ∧ mayOf 5 id = true := by
  obtain ⟨_, _, _, sh⟩ := shape_of h
  have := known_cases h
  exact ⟨by omega, by omega, sh.may⟩
theorem laid_head (id n : Int) (D1 D2 : List (Int × Int)) : laidOf ([(id, (8 : Int))] ++ D1 ++ (n, (13 : Int)) :: D2) = laidOf [(id, 8)] ++ laidOf (D1 ++ (n, 13) :: D2) := by
  rw [List.append_assoc, laid_append]
theorem getD_mid2 (id : Int) (D1 D2 : List (Int × Int)) (x : Int × Int) : ([(id, (8 : Int))] ++ D1 ++ x :: D2).getD ([(id, (8 : Int))] ++ D1).length (0, 0) = x := by
  rw [List.getD_eq_getElem?_getD, List.getElem?_append_right (Nat.le_refl _), Nat.sub_self]; rfl

theorem get_back {id : Int} {V : List Int} {O : List (Int × Int)} (h : itemsF id V = (O, 0)) (A B : List Bool) : getF (A ++ laidOf O ++ B) (A.length : Nat) = ((id, V), (A.length : Int) + totalOf O, 0) := by
  obtain ⟨hk, D1, D2, w, hV, hO, ht⟩ := items_ok h
  obtain ⟨_, _, hm⟩ := known_id hk
  have h1 : ∀ x ∈ O, 0 ≤ x.2 := by
    intro x hx
    rw [hO] at hx
    simp only [List.append_assoc, List.mem_append, List.mem_cons, List.not_mem_nil, or_false] at hx
    rcases hx with rfl | hx | rfl | hx
    · simp only; omega
    · have := (w.fit x (List.mem_append_left _ hx)).2.2.1; omega
    · simp only; omega
    · have := (w.fit x (List.mem_append_right _ hx)).2.2.1; omega
  have h0 : 0 ≤ totalOf O := by
    have hg : ∀ (l : List (Int × Int)), (∀ x ∈ l, 0 ≤ x.2) → 0 ≤ totalOf l := by
      intro l
      induction l with
      | nil => intro _; exact Int.le_refl _
      | cons x l ih => intro hl; rw [total_cons]; have := hl x (by simp); have := ih (fun y hy => hl y (by simp [hy])); omega
    exact hg O h1
  obtain ⟨n, hn⟩ : ∃ n, totalOf O = n := ⟨_, rfl⟩
  have hdrop : (A ++ laidOf O ++ B).drop ((A.length : Nat) : Int).toNat = laidOf [(id, 8)] ++ (laidOf (D1 ++ (n, 13) :: D2) ++ B) := by
    rw [Int.toNat_natCast, List.append_assoc, List.drop_left, hO, hn, laid_head, List.append_assoc]
  have e5 := five_ok hm hdrop
  have er := w.get { startG ((A ++ laidOf O ++ B).drop ((A.length : Nat) : Int).toNat) with bits := laidOf (D1 ++ (n, 13) :: D2) ++ B, out := [(id, 8)] } B n rfl rfl (may7 (by omega) (by omega)) rfl
  unfold getF
  rw [if_neg (by simp only [List.length_append]; omega), e5]
  simp only
  rw [if_neg (sg0 _), if_neg (by rw [hk]; decide), er]
  simp only
  rw [if_neg (sg0 _)]
  simp only [Int.toNat_natCast, getD_mid2]
  have hO' : [(id, (8 : Int))] ++ D1 ++ (n, (13 : Int)) :: D2 = O := by rw [← hn]; exact hO.symm
  rw [hO', hn, if_neg (by omega), if_neg (by omega), hV]
  simp [startG]

theorem get_cut {id : Int} {V : List Int} {O : List (Int × Int)} (h : itemsF id V = (O, 0)) (j : Nat) (hj : j < (laidOf O).length) : getF ((laidOf O).take j) 0 = ((0, []), 0, 10) := by
  obtain ⟨hk, D1, D2, w, hV, hO, ht⟩ := items_ok h
  obtain ⟨_, _, hm⟩ := known_id hk
  obtain ⟨n, hn⟩ : ∃ n, totalOf O = n := ⟨_, rfl⟩
  have hn0 : 0 ≤ n := by
    have hfit : ∀ x ∈ D1 ++ D2, 1 ≤ x.2 := fun x hx => (w.fit x hx).2.2.1
    have a1 := laid_total (l := D1) (fun x hx => hfit x (List.mem_append_left _ hx))
    have a2 := laid_total (l := D2) (fun x hx => hfit x (List.mem_append_right _ hx))
    have := total_mid id n D1 D2
    rw [← hn, ← hO, hn] at this
    omega
  rw [hn] at hO ht
  have hL : laidOf O = laidOf [(id, 8)] ++ laidOf (D1 ++ (n, 13) :: D2) := by rw [hO, laid_head]
  have h8 : (laidOf [(id, (8 : Int))]).length = 8 := by rw [laid_one, wbits_length]; rfl
  have hlen : ((laidOf O).take j).length = j := by rw [List.length_take]; omega
  unfold getF
  rw [if_neg (by rw [hlen]; omega), show (0 : Int).toNat = 0 from rfl, List.drop_zero]
  by_cases h1 : j < 8
  · have e5 := five_cut (b := (laidOf O).take j) (by rw [hlen]; exact h1)
    rw [e5, if_pos (by decide)]
  · obtain ⟨C, hC⟩ : ∃ C, (laidOf (D1 ++ (n, 13) :: D2)).take (j - 8) = C := ⟨_, rfl⟩
    have hb : (laidOf O).take j = laidOf [(id, 8)] ++ C := by
      rw [hL, List.take_append, List.take_of_length_le (by rw [h8]; omega), h8, hC]
    have hCl : C.length = j - 8 := by
      rw [hL, List.length_append, h8] at hj
      rw [← hC, List.length_take]; omega
    have e5 := five_ok hm hb
    have hc := w.cut { startG ((laidOf O).take j) with bits := C, out := [(id, 8)] } n rfl rfl (may7 hn0 ht) (by
        rw [hL, List.length_append, h8] at hj
        show C.length < _; omega) (by show C = (laidOf (D1 ++ (n, 13) :: D2)).take C.length; rw [hCl, hC])
    rw [e5]
    simp only
    rw [if_neg (sg0 _), if_neg (by rw [hk]; decide), hc, if_pos (by decide)]

theorem get_err {bits : List Bool} {a : Int} (h : (getF bits a).2.2 ≠ 0) : (getF bits a).1 = (0, []) ∧ (getF bits a).2.1 = 0 := by
  unfold getF at h ⊢
  repeat' split
  all_goals first | exact ⟨rfl, rfl⟩ | skip
  rename_i h1 h2 h3 h4 h5 h6
  rw [if_neg h1, if_neg h2, if_neg h3, if_neg h4, if_neg h5, if_neg h6] at h
  exact absurd rfl h
theorem items_err {id : Int} {V : List Int} (h : (itemsF id V).2 ≠ 0) : (itemsF id V).1 = [] := by
  unfold itemsF at h ⊢
  repeat' split
  all_goals first | rfl | skip
  rename_i h1 h2 h3 h4
  rw [if_neg h1, if_neg h2, if_neg h3, if_neg h4] at h
  exact absurd rfl h

theorem items_of_wh {id : Int} {D1 D2 : List (Int × Int)} (hk : knownB id = true) (w : Wh id D1 D2) (n : Int) (hn : n = 21 + totalOf D1 + totalOf D2) (hl : n ≤ 8184) : itemsF id ((D1 ++ D2).map Prod.fst) = ([(id, 8)] ++ D1 ++ (n, 13) :: D2, 0) := by
  have hr := w.items (startS id ((D1 ++ D2).map Prod.fst)) [] rfl rfl (by simp [startS])
  unfold itemsF
  rw [if_neg (by rw [hk]; decide), hr]
  simp only
  rw [if_neg (ss0 _ _), if_neg (by simp)]
  simp only [show (startS id ((D1 ++ D2).map Prod.fst)).out = [(id, 8)] from rfl, total_mid]
  rw [if_neg (by omega)]
  simp only [Int.toNat_natCast, set_mid, ← hn]

theorem get_only {bits : List Bool} {a end_ id : Int} {V : List Int} (h : getF bits a = ((id, V), end_, 0)) : ∃ O R, itemsF id V = (O, 0) ∧ 0 ≤ a ∧ a ≤ bits.length ∧ end_ = a + totalOf O ∧ bits.drop a.toNat = laidOf O ++ R ∧ ((laidOf O).length : Int) = totalOf O := by
  unfold getF at h
  by_cases h1 : a < 0 ∨ (bits.length : Int) < a
  · rw [if_pos h1] at h; simp at h
  · rw [if_neg h1] at h
    by_cases h2 : (oneS 5 (startG (bits.drop a.toNat))).2.e ≠ 0
    · rw [if_pos h2] at h
      simp only [Prod.mk.injEq] at h
      exact absurd h.2.2 h2
    · rw [if_neg h2] at h
      obtain ⟨i, R, hm, hb⟩ := five_took (by omega : (oneS 5 (startG (bits.drop a.toNat))).2.e = 0)
      rw [five_ok hm hb] at h
      simp only at h
      by_cases hk : knownB i = false
      · rw [if_pos hk] at h; simp at h
      · rw [if_neg hk] at h
        have hk' : knownB i = true := by simpa using hk
        by_cases h4 : (runL (astOf i) 0 { startG (bits.drop a.toNat) with bits := R, out := [(i, 8)] }).e ≠ 0
        · rw [if_pos h4] at h
          simp only [Prod.mk.injEq] at h
          exact absurd h.2.2 h4
        · rw [if_neg h4] at h
          obtain ⟨D1, D2, w, _, hg⟩ := wh_of_run hk' (s := { startG (bits.drop a.toNat) with bits := R, out := [(i, 8)] }) rfl (by omega)
          obtain ⟨n, R2, hm7, hR⟩ := hg rfl
          have er := w.get { startG (bits.drop a.toNat) with bits := R, out := [(i, 8)] } R2 n rfl rfl hm7 hR
          rw [er] at h
          simp only [Int.toNat_natCast, getD_mid2] at h
          have hR' : R = laidOf (D1 ++ (n, 13) :: D2) ++ R2 := hR
          by_cases h5 : n ≠ totalOf ([(i, (8 : Int))] ++ D1 ++ (n, (13 : Int)) :: D2)
          · rw [if_pos h5] at h; simp at h
          · rw [if_neg h5] at h
            by_cases h6 : 8184 < totalOf ([(i, (8 : Int))] ++ D1 ++ (n, (13 : Int)) :: D2)
            · rw [if_pos h6] at h; simp at h
            · rw [if_neg h6] at h
              simp only [Prod.mk.injEq, and_true] at h
              obtain ⟨⟨rfl, hV⟩, hend⟩ := h
              have hn : n = totalOf ([(i, (8 : Int))] ++ D1 ++ (n, (13 : Int)) :: D2) := by omega
              have hV' : V = (D1 ++ D2).map Prod.fst := by rw [← hV]; simp [startG]
              have hi := items_of_wh hk' w n (by rw [total_mid] at hn; exact hn) (by omega)
              refine ⟨_, R2, by rw [hV']; exact hi, by omega, by omega, by omega, ?_, ?_⟩
              · rw [hb, hR', laid_head, List.append_assoc]
              · have hid := known_id hk'
                have h7 := may_fit 7 (by decide) n hm7
                rw [show widthOf ((7 : Nat) : Int) = 13 from w7] at h7
                exact laid_total (fun x hx => (out_fit w hid.1 hid.2.1 h7.1 (by omega) x hx).2.2.1)
end Go.Proofs.YtamnhnleipnhdaaDoor

/-
  linesideref05.Items, walked.
-/
namespace Go.Proofs.YtamnhnleipnhdaaDoor

open Go.RowKit

theorem wk_under {base g : Nat} {w w' : World} {s : WS} (h : WkAt base g w s) (hb : Below w.heap.size w w') (hB : base ≤ w.heap.size) : WkAt base g w' s := by
  obtain ⟨h0, AV, nV, cV, AB, nB, cB, AO, nO, cO, AG, nG, cG, hh, hr⟩ := h
  exact ⟨h0, AV, nV, cV, AB, nB, cB, AO, nO, cO, AG, nG, cG, hh.under hb hh.lt, hr.under hb hB⟩
theorem pairs_set : ∀ (l : List (Int × Int)) (j : Nat) (n : Int), (pairs l).set (j * 2) (.int .i64 n) = pairs (l.set j (n, (l.getD j (0, 0)).2))
  | [], j, n => by simp [pairs]
  | x :: l, 0, n => rfl
  | x :: l, j + 1, n => by
    have e : ∀ y, pairs (y :: l) = .int .i64 y.1 :: .int .i64 y.2 :: pairs l := fun _ => rfl
    have e' : ∀ k : List (Int × Int), pairs (x :: k) = .int .i64 x.1 :: .int .i64 x.2 :: pairs k := fun _ => rfl
    rw [e, show (j + 1) * 2 = j * 2 + 1 + 1 by omega, List.set_cons_succ, List.set_cons_succ, pairs_set l j n, List.set_cons_succ, e']
    rfl
theorem cell_beside {w : World} {a : Addr} {v : Value} {o : Obj} (h : w.cell? a = some v) : (w.alloc o).cell? a = some v := by
  rw [((Below.refl w.heap.size w).alloc (Nat.le_refl _) o).cell (cell_block h)]; exact h
theorem inv_start {id : Int} {V : List Int} (h : V.length ≤ 500000) : Inv (startS id V) 1 := ⟨by simp [startS], by show V.length ≤ _; omega, by simp [startS], by simp [startS]; omega⟩

set_option maxRecDepth 100000 in
set_option maxHeartbeats 4000000 in
theorem items_any (id : Int) (A : Option Addr) (n c : Nat) (V : List Int) (w : World) (hV : SlI w.heap.size w A n c V) (hn : n ≤ 500000) :
    Calls Tryd.prog 37 #[pkV id A n c] w fun e w' => ∃ A' m' c', e = .returned (.tuple #[.slice A' m' c', .int .i64 (itemsF id V).2]) ∧ SlP w' A' m' c' (itemsF id V).1 ∧ Below w.heap.size w w' := by
  unfold pkV
  have HV := Lib.hid hV; clear hV
  cases hk : knownB id
  · have e1 : itemsF id V = ([], 50) := by rw [itemsF, if_pos hk]
    rw [e1]
    have hkn := fun w => known_any id w
    rw [hk] at hkn
    have HK := Lib.hid hkn; clear hkn hk e1
    have HB := Lib.hid ((Below.refl w.heap.size w).alloc (Nat.le_refl _) (.cells #[.int .i64 id, .slice A n c] 39))
    go_enter Tryd.func37, Tryd.ntmps37
    go_wp2_with fail
    refine (HK.out _).mono ?_
    rintro e w' ⟨rfl, rfl⟩
    go_wp2
    go_ret2
    exact ⟨none, 0, 0, rfl, ⟨rfl, sl_nil _ _⟩, HB.out⟩
  · have hkn := fun w => known_any id w
    rw [hk] at hkn
    have HK := Lib.hid hkn; clear hkn
    have HW := Lib.hid (fun w => ref_width 5 w)
    rw [w5] at HW
    have HKB := Lib.hid hk; clear hk
    have HB := Lib.hid ((Below.refl w.heap.size w).alloc (Nat.le_refl _) (.cells #[.int .i64 id, .slice A n c] 39))
    obtain ⟨T, hT⟩ : ∃ T, itemsF id V = T := ⟨_, rfl⟩
    rw [hT]
    have HT := Lib.hid hT; clear hT
    go_enter Tryd.func37, Tryd.ntmps37
    go_wp2_with fail
    refine (HK.out _).mono ?_
    rintro e w' ⟨rfl, rfl⟩
    obtain ⟨B, hB⟩ : ∃ B, w.heap.size = B := ⟨_, rfl⟩
    have hc0 : (w.alloc (.cells #[.int .i64 id, .slice A n c] 39)).cell? ⟨B, 0, none⟩ = some (.int .i64 id) := by rw [← hB]; simp
    have hc1 : (w.alloc (.cells #[.int .i64 id, .slice A n c] 39)).cell? ⟨B, 1, none⟩ = some (.slice A n c) := by rw [← hB]; simp
    have hsz : B < (w.alloc (.cells #[.int .i64 id, .slice A n c] 39)).heap.size := by rw [← hB]; simp
    generalize w.alloc (.cells #[.int .i64 id, .slice A n c] 39) = w1 at *
    have HV2 : Hid (SlI B w A n c V) := hB ▸ HV
    have HB2 : Hid (Below B w w1) := hB ▸ HB
    clear HV HB
    have HBE := Lib.hid hB
    rw [hB]
    clear hB
    go_upto_region 4 with fail
    go_cut [5] (fun s5 wc => ∃ g, s5 = .pointer (some ⟨g, 0, none⟩) ∧ WkAt B g wc (startS id V) ∧ Below B w wc ∧ wc.cell? ⟨B, 0, none⟩ = some (.int .i64 id))
    case first =>
      go_region_held3 (fun w' => w'.cell? ⟨B, 0, none⟩ = some (.int .i64 id) ∧ w'.cell? ⟨B, 1, none⟩ = some (.slice A n c)) (first | go_keep | exact ⟨hc0, hc1⟩ | exact ⟨hc04, hc14⟩) (first
        | (go_at_call 36; refine (HW.out _).mono ?_; rintro e w4 ⟨rfl, hb4⟩; have hc04 := (hb4.cell (p := ⟨B, 0, none⟩) hsz).trans hc0; have hc14 := (hb4.cell (p := ⟨B, 1, none⟩) hsz).trans hc1))
      have hb1 : Below B w1 w4 := (below_draws (Below.refl B w1) 1).trans (hb4.mono (Nat.le_of_lt hsz))
      have hb5 : Below B w w4 := HB2.out.trans hb1
      have hs4 : B < w4.heap.size := Nat.lt_of_lt_of_le hsz hb1.size
      go_wp2_with fail
      go_meet
      refine ⟨w4.heap.size + 1, by simp, ⟨by omega, A, n, c, none, 0, 0, some ⟨w4.heap.size, 0, none⟩, 1, 1, none, 0, 0, ?_, ?_⟩, ?_, ?_⟩
      · have h := Has.made (w4.alloc (.cells #[.int .i64 id, .int .i64 8] 53)) 110 #[.slice A n c, .bool false, .slice none 0 0, .slice (some ⟨w4.heap.size, 0, none⟩) 1 1, .slice none 0 0, .int .i64 0, .int .i64 0]
        rw [show (w4.alloc (.cells #[.int .i64 id, .int .i64 8] 53)).heap.size = w4.heap.size + 1 by simp] at h
        exact h
      · refine ⟨⟨HV2.out.len, HV2.out.cap, ?_, HV2.out.low⟩, ⟨slB_nil _, Nat.le_refl _, fun a h => by cases h⟩, rfl, rfl, ?_, World.ownsRow_nil _ _ _ _⟩
        · exact (HV2.out.below ((hb5.alloc (by omega) _).alloc (by simp; omega) _)).sl
        · exact (World.ownsRow_lit (base := B) (e := 53) (size := 2) w4 #[.int .i64 id, .int .i64 8] 1 (by omega) (by unfold maxLen; omega) rfl).alloc _
      · exact (hb5.alloc (by omega) _).alloc (by simp; omega) _
      · rw [cell_beside (cell_beside hc04)]
    case rest =>
      obtain ⟨g, rfl, hwk, hbw, hcB⟩ := hcut
      have hBw := hbw.size
      have hgw := hwk
      obtain ⟨pre, a, post, sh⟩ := shape_of HKB.out
      have HG := Lib.hid (fun w => grammar_any id w)
      have HWD := Lib.hid (fun w => words_any (gramOf id) sh.size w)
      rw [sh.words] at HWD
      have HWK := Lib.hid hwk; have HBW := Lib.hid hbw; have HSH := Lib.hid sh
      have HSZ : Hid (B < wc.heap.size) := by
        obtain ⟨h0, _, _, _, _, _, _, _, _, _, _, _, _, hh, _⟩ := hgw
        exact Nat.lt_of_le_of_lt h0 hh.lt
      clear hwk hbw sh hgw hBw hc0 hc1 hsz HB2 HK HW
      go_wp2_with fail
      refine (HG.out _).mono ?_
      rintro e w5 ⟨rfl, rfl⟩
      go_wp2_with fail
      refine (HWD.out _).mono ?_
      rintro e w6 ⟨A2, c2, rfl, ho2, hb6⟩
      have hlen : (wordsL (astOf id)).length ≤ 1048576 := by
        have := (wstep_le (gramOf id) ((gramOf id).size + 1)).2
        have h2 : wordsOf (gramOf id) = wordsL (astOf id) := HSH.out.words
        unfold wordsOf at h2
        rw [h2] at this
        have := HSH.out.size
        omega
      have HR := Lib.hid (run_any _ (astOf id) (Nat.lt_succ_self _) HSH.out.good B g (startS id V) w6 A2 _ c2 0 (wk_under HWK.out hb6 (Nat.le_of_lt HSZ.out)) (Nat.le_trans (Nat.le_of_lt HSZ.out) hb6.size) (by rw [HSH.out.seven]; exact inv_start (by rw [HV2.out.len]; exact hn)) hlen (StrSl.of_own ho2))
      have HB6 := Lib.hid (HBW.out.trans (hb6.mono (Nat.le_of_lt HSZ.out)))
      clear ho2 hb6 hlen HWD HG
      go_wp2_with fail
      refine HR.out.mono ?_
      rintro e w7 ⟨rfl, hwk7, hfr7⟩
      have HB7 := Lib.hid (HB6.out.trans hfr7.b)
      have HSZ7 : Hid (B ≤ w7.heap.size) := HBE.out ▸ HB7.out.size
      have hform := items_form (V := V) HKB.out
      have hinv := inv_runL (astOf id) 0 (startS id V) 0 HSH.out.good (by rw [HSH.out.seven]; exact inv_start (by rw [HV2.out.len]; exact hn))
      have hT := HT.out
      unfold itemsF at hT
      rw [if_neg (by rw [HKB.out]; decide)] at hT
      generalize runL (astOf id) 0 (startS id V) = S at *
      obtain ⟨h0, AV, nV, cV, AB, nB, cB, AO, nO, cO, AG, nG, cG, hh, hr⟩ := hwk7
      have k0 : w7.cell? ⟨g, 0, none⟩ = some (.slice AV nV cV) := by rw [hh.cell]; rfl
      have k3 : w7.cell? ⟨g, 3, none⟩ = some (.slice AO nO cO) := by rw [hh.cell]; rfl
      have k5 : w7.cell? ⟨g, 5, none⟩ = some (.int .i64 S.e) := by rw [hh.cell]; rfl
      have k6 : w7.cell? ⟨g, 6, none⟩ = some (.int .i64 S.place) := by rw [hh.cell]; rfl
      have kf : ∀ i, w7.frozen? ⟨g, i, none⟩ = false := fun i => hh.thaw i
      have HHH := Lib.hid hh; have HRR := Lib.hid hr; have HFM := Lib.hid hform; have HTT := Lib.hid hT
      have hvl := hr.v.len
      clear hh hr hform hT hfr7 HR HSH HWK HT
      by_cases he : S.e = 0
      · rw [he] at k5
        by_cases hV0 : S.V = []
        · have hn0 : nV = 0 := by rw [← hvl, hV0]; rfl
          subst hn0
          obtain ⟨D1, D2, R0, wh, _, hS⟩ := HFM.out he
          have hid := known_id HKB.out
          have hout : S.out = [(id, 8)] ++ D1 ++ (0, 13) :: D2 := by rw [hS]
          have hpl : S.place = ((([(id, (8 : Int))] ++ D1).length : Nat) : Int) := by rw [hS]
          obtain ⟨p, hp⟩ : ∃ p, ([(id, (8 : Int))] ++ D1).length = p := ⟨_, rfl⟩
          rw [hp] at hpl
          have hfit : ∀ x ∈ S.out, FitP x := by
            intro x hx
            rw [hout] at hx
            exact out_fit wh hid.1 hid.2.1 (Int.le_refl 0) (by omega) x hx
          have hpo : p < S.out.length := by rw [hout, List.length_append, hp, List.length_cons]; omega
          have hgp : (S.out.getD p (0, 0)).2 = 13 := by rw [hout, ← hp, getD_mid2]
          have hlo := HRR.out.lo
          have hno : nO ≤ 1048576 := by have := hinv.o; omega
          have hsl : SlP w7 AO nO cO S.out := ⟨hlo, Sl.of_own HRR.out.o⟩
          have hto := total_any AO nO cO S.out w7 hsl hno (fun x hx => by have := hfit x hx; exact ⟨by have := this.2.2.1; omega, by have := this.2.2.2; omega⟩)
          have hT := HTT.out
          rw [if_neg (by omega), if_neg (by simpa using hV0), hpl, Int.toNat_natCast] at hT
          have hse : ∀ m, (pairs S.out).set (p * 2) (.int .i64 m) = pairs (S.out.set p (m, 13)) := fun m => by rw [pairs_set, hgp]
          obtain ⟨go, capo, hvo, hgo1, hgo2⟩ := HRR.out.o.form (by omega)
          injection hvo with hvo1 _ hvo2
          subst hvo1
          subst hvo2
          have hoo := HRR.out.o
          have hca : w7.cell? ⟨go, p * 2, none⟩ = some (.int .i64 (S.out.getD p (0, 0)).1) := by
            rw [hoo.cellAt (p * 2) (by omega)]
            exact (pairs_at S.out p hpo).1
          have hfa : w7.frozen? ⟨go, p * 2, none⟩ = false := hoo.frozenAt _
          have hne : g ≠ go := by
            have h := own_apart hoo HHH.out (by decide)
            intro e
            exact h (by rw [e]; rfl)
          have hood : w7.drew.ownsRow B 53 2 (.slice (some ⟨go, 0, none⟩) nO cO) nO (pairs S.out) := hoo
          have hsto := fun m => hood.stored (p * 2) (.int .i64 m)
          obtain ⟨t, ht⟩ : ∃ t, totalOf S.out = t := ⟨_, rfl⟩
          rw [ht] at hto hT
          have HTO := Lib.hid hto
          have x3 : (p : Int) < nO := by omega
          have x4 : (0 : Int) ≤ p := by omega
          rw [hpl] at k6
          by_cases h8 : 8184 < t
          · rw [if_pos h8] at hT
            subst hT
            clear HTT HFM hS hto hse hsto hca hfa hoo hood hsl hfit hout hpl hid wh hV0 kf he hinv k6
            go_wp2_with fail
            refine HTO.out.mono ?_
            rintro e w8 ⟨rfl, rfl⟩
            go_wp2
            go_ret2
            exact ⟨none, 0, 0, rfl, ⟨rfl, sl_nil _ _⟩, by rw [HBE.out]; exact HB7.out⟩
          · rw [if_neg h8] at hT
            subst hT
            have hfin := hsto t
            rw [hse] at hfin
            have HFIN := Lib.hid hfin
            have HLN : Hid ((S.out.set p (t, 13)).length = nO) := Lib.hid (by rw [List.length_set]; exact hlo)
            generalize (S.out.getD p (0, 0)).1 = y at *
            have hhd : Has w7.drew g 110 _ := HHH.out.draw
            have kd3 : (w7.drew.setCell ⟨go, p * 2, none⟩ (.int .i64 t)).cell? ⟨g, 3, none⟩ = some (.slice (some ⟨go, 0, none⟩) nO cO) := by
              rw [(hhd.apart (p := ⟨go, p * 2, none⟩) hne (.int .i64 t)).cell]; rfl
            have hcd : w7.drew.cell? ⟨go, p * 2, none⟩ = some (.int .i64 y) := hca
            have hfd : w7.drew.frozen? ⟨go, p * 2, none⟩ = false := hfa
            have HBD := Lib.hid (below_own (below_draws HB7.out 1) HSZ7.out hood (Nat.le_refl _) rfl hfin.2)
            clear HTT HFM hS hto hse hsto hoo hood hsl hfit hout hpl hid wh hV0 kf he hinv hfin ht hgp hp hhd hgo1 hgo2
            go_wp2_with fail
            refine HTO.out.mono ?_
            rintro e w8 ⟨rfl, rfl⟩
            go_wp2_with fail
            go_still_tail 11, (by kernel_rfl)
            change wpList _ _ _ _ _ w7.drew
            go_wp2
            go_ret2
            exact ⟨some ⟨go, 0, none⟩, nO, cO, rfl, ⟨HLN.out, Sl.of_own HFIN.out.1⟩, by rw [HBE.out]; exact HBD.out⟩
        · have hnv : (0 : Int) < nV := by
            rw [← hvl]
            have : S.V.length ≠ 0 := fun h => hV0 (List.eq_nil_of_length_eq_zero h)
            omega
          have hT := HTT.out
          rw [if_neg (by omega), if_pos hV0] at hT
          have hst := HHH.out.stored 5 (.int .i64 20)
          have k5' : (w7.setCell ⟨g, 5, none⟩ (.int .i64 20)).cell? ⟨g, 5, none⟩ = some (.int .i64 20) := by rw [hst.cell]; rfl
          have HBF := Lib.hid (HB7.out.trans (below_store (w := w7) h0 HSZ7.out 5 (.int .i64 20)))
          have kf5 := kf 5
          subst hT
          clear HTT HFM hst hV0 kf he hvl k6 k3
          go_wp2_with fail
          go_quiet (fail)
          go_wp2
          go_ret2
          exact ⟨none, 0, 0, rfl, ⟨rfl, sl_nil _ _⟩, by rw [HBE.out]; exact below_draws HBF.out nq⟩
      · have hT := HTT.out
        rw [if_pos he] at hT
        have x1 : (S.e == 0) = false := by simp [he]
        have x2 : (S.e != 0) = true := by simp [he]
        subst hT
        clear HTT HFM he k0 k3 k6 hvl kf
        go_wp2_with fail
        go_quiet (fail)
        go_wp2
        go_ret2
        exact ⟨none, 0, 0, rfl, ⟨rfl, sl_nil _ _⟩, by rw [HBE.out]; exact below_draws HB7.out nq⟩
end Go.Proofs.YtamnhnleipnhdaaDoor

/-
  linesideref05.Size, Get, walked.
-/
namespace Go.Proofs.YtamnhnleipnhdaaDoor

open Go.RowKit

open BitsM

theorem items_fit (id : Int) (V : List Int) : ∀ x ∈ (itemsF id V).1, FitP x := by
  by_cases h : (itemsF id V).2 = 0
  · have h2 : itemsF id V = ((itemsF id V).1, 0) := by rw [← h]
    obtain ⟨hk, D1, D2, w, _, hO, ht⟩ := items_ok h2
    have hid := known_id hk
    have h0 : 0 ≤ totalOf (itemsF id V).1 := by
      have a1 := laid_total (l := D1) (fun x hx => (w.fit x (List.mem_append_left _ hx)).2.2.1)
      have a2 := laid_total (l := D2) (fun x hx => (w.fit x (List.mem_append_right _ hx)).2.2.1)
      have a3 := total_mid id (totalOf (itemsF id V).1) D1 D2
      rw [← hO] at a3
      omega
    intro x hx
    rw [hO] at hx
    exact out_fit w hid.1 hid.2.1 h0 (by omega) x hx
  · rw [items_err h]; intro x hx; cases hx
theorem items_len (id : Int) (V : List Int) (hV : V.length ≤ 500000) : (itemsF id V).1.length ≤ 500002 := by
  by_cases h : (itemsF id V).2 = 0
  · have h2 : itemsF id V = ((itemsF id V).1, 0) := by rw [← h]
    obtain ⟨_, D1, D2, _, hV2, hO, _⟩ := items_ok h2
    rw [hO]
    have := congrArg List.length hV2
    rw [List.length_map, List.length_append] at this
    simp only [List.length_append, List.length_cons, List.length_nil]; omega
  · rw [items_err h]; simp

theorem results_cell_tmp2 {fn : Func} {p u v : Tmp} {ty : TypeId} (h : fn.results = #[.cell p ty, .tmp u, .tmp v]) (tmps : Array Value) (P : Program) (w : World) :
    (results fn tmps).run P w =
      ((asAddr (tmps.getD p undef)).run P w).andThen fun a w₁ => ((loadVar ty a).run P w₁).andThen fun x w₂ => .ok (.tuple #[x, tmps.getD u undef, tmps.getD v undef]) w₂ := by
  simp only [results, h]
  simp [Sem.run_bind, Result.andThen]
theorem results_row_tmp2 {P : Program} {fn : Func} {p u v : Tmp} {ty : TypeId} (h : fn.results = #[.cell p ty, .tmp u, .tmp v]) (tmps : Array Value) (w : World) (g : Nat) (t : TypeId) (cs : Array Value) (d : TypeDesc)
    (hp : tmps.getD p undef = .pointer (some ⟨g, 0, none⟩)) (hg : w.heap[g]? = some (.cells cs t (0, 0)))
    (hu : P.underlying ty = some d) (hd : (match d with | .struct _ | .array _ _ => true | _ => false) = true) (hi : (P.info? ty).map (·.size) = some cs.size) :
    (results fn tmps).run P w = .ok (.tuple #[.agg cs, tmps.getD u undef, tmps.getD v undef]) w := by
  rw [results_cell_tmp2 h, hp]
  simp [asAddr, run_loadVar_row w g t ty cs (0, 0) d hg hu hd hi]

theorem sli_own {base : Nat} {w : World} {A : Option Addr} {n c : Nat} {V : List Int} (h : w.ownsRow base 3 1 (.slice A n c) n (ints V)) (hl : V.length = n) : SlI w.heap.size w A n c V := by
  refine ⟨hl, ?_, Sl.of_own h, fun _ a ha => (h.lt a.block (by rw [ha]; rfl)).2⟩
  rcases h.2 with ⟨e1, e2⟩ | ⟨_, cap, _, e1, _, _, h3, _⟩
  · omega
  · injection e1 with _ _ e3
    omega
def bitsOf (xs : List Nat) : List Bool := bitsFrom xs 0 (8 * xs.length)
theorem bitsOf_length (xs : List Nat) : (bitsOf xs).length = 8 * xs.length := by simp [bitsOf, bitsFrom]
theorem inv_get {bits : List Bool} (h : bits.length ≤ 500000) : Inv (startG bits) 1 := ⟨by show bits.length ≤ _; omega, by simp [startG], by simp [startG], by simp [startG]; omega⟩

/-- What Get hands back where there is no packet. -/
def noPk (e : Int) : Value := .tuple #[.agg #[.int .i64 0, .slice none 0 0], .int .i64 0, .int .i64 e]

theorem pk_store {w : World} {P : Nat} {x0 x1 : Value} (h : Has w P 39 #[x0, x1]) (x y : Value) :
    (w.cell? ⟨P, 0, none⟩ = some x0 ∧ w.frozen? ⟨P, 0, none⟩ = false ∧ w.cell? ⟨P, 1, none⟩ = some x1 ∧ w.frozen? ⟨P, 1, none⟩ = false) ∧ ((w.setCell ⟨P, 0, none⟩ x).cell? ⟨P, 1, none⟩ = some x1 ∧ (w.setCell ⟨P, 0, none⟩ x).frozen? ⟨P, 1, none⟩ = false) ∧
    Has ((w.setCell ⟨P, 0, none⟩ x).setCell ⟨P, 1, none⟩ y) P 39 #[x, y] ∧ (∀ B a, B ≤ P → B ≤ w.heap.size → Below B a w → Below B a ((w.setCell ⟨P, 0, none⟩ x).setCell ⟨P, 1, none⟩ y)) ∧ w.grownBy ((w.setCell ⟨P, 0, none⟩ x).setCell ⟨P, 1, none⟩ y) (some P) := by
  have h1 := h.stored 0 x
  have h2 := h1.stored 1 y
  have hg : w.grownBy ((w.setCell ⟨P, 0, none⟩ x).setCell ⟨P, 1, none⟩ y) (some P) := only_store (only_store (only_refl w (some P)) (p := ⟨P, 0, none⟩) rfl x) (p := ⟨P, 1, none⟩) rfl y
  refine ⟨⟨by rw [h.cell]; rfl, h.thaw 0, by rw [h.cell]; rfl, h.thaw 1⟩, ⟨by rw [h1.cell]; rfl, h1.thaw 1⟩, h2, ?_, hg⟩
  intro B a hB hB2 hb
  exact below_only hb hg hB2 hB

set_option maxRecDepth 100000 in
set_option maxHeartbeats 4000000 in
theorem pget_any (A : Option Addr) (c : Nat) (xs : List Nat) (a : Int) (w : World) (ha : At8 w A xs) (hb : ∀ x ∈ xs, x < 256) (hn : xs.length ≤ 2000) (h1 : -9223372036854775808 ≤ a) (h2 : a ≤ 9223372036854775807) :
    Calls Tryd.prog 49 #[.slice A xs.length c, .int .i64 a] w fun e w' =>
      ∃ A' n' c', e = .returned (.tuple #[.agg #[.int .i64 (getF (bitsOf xs) a).1.1, .slice A' n' c'], .int .i64 (getF (bitsOf xs) a).2.1, .int .i64 (getF (bitsOf xs) a).2.2]) ∧ SlI w'.heap.size w' A' n' c' (getF (bitsOf xs) a).1.2 ∧ Below w.heap.size w w' ∧ ∀ a, A' = some a → w.heap.size ≤ a.block := by
  obtain ⟨G, hG⟩ : ∃ G, getF (bitsOf xs) a = G := ⟨_, rfl⟩
  rw [hG]
  have HG := Lib.hid hG; clear hG
  have hal : At8 (w.alloc (.cells #[.int .i64 0, .slice none 0 0] 39)) A xs := at8_low ha ((Below.refl _ _).alloc (Nat.le_refl _) _)
  have HBT := Lib.hid (refBits_any A c xs _ hal hb hn)
  have HB0 := Lib.hid ((Below.refl w.heap.size w).alloc (Nat.le_refl _) (.cells #[.int .i64 0, .slice none 0 0] 39))
  have HP0 : Hid (Has (w.alloc (.cells #[.int .i64 0, .slice none 0 0] 39)) w.heap.size 39 #[.int .i64 0, .slice none 0 0]) := Has.made _ _ _
  clear ha hb hal
  go_enter Tryd.func49, Tryd.ntmps49
  go_wp2_with fail
  refine HBT.out.mono ?_
  rintro e w1 ⟨A1, c1, rfl, ho1, hb1⟩
  have hlen := bitsOf_length xs
  have HO1 : Hid (w1.ownsRow (w.alloc (.cells #[.int .i64 0, .slice none 0 0] 39)).heap.size 4 1 (.slice A1 (8 * xs.length) c1) (8 * xs.length) (bools (bitsOf xs))) := ho1
  have HB1 := Lib.hid (HB0.out.trans (hb1.mono HB0.out.size))
  have HP1 : Hid (Has w1 w.heap.size 39 #[.int .i64 0, .slice none 0 0]) := HP0.out.under hb1 (by simp)
  clear ho1 hb1 HBT HB0 HP0
  have hG := HG.out
  unfold getF at hG
  rw [hlen] at hG
  generalize bitsOf xs = bits at *
  obtain ⟨m, hm⟩ : ∃ m, 8 * xs.length = m := ⟨_, rfl⟩
  have hm2 : m ≤ 16000 := by omega
  rw [hm] at hG HO1 hlen ⊢
  have hPB : w.heap.size ≤ w1.heap.size := HB1.out.size
  by_cases hrg : a < 0 ∨ (m : Int) < a
  · rw [if_pos hrg] at hG
    subst hG
    obtain ⟨⟨p0, pf0, r1, rf1⟩, ⟨p1, pf1⟩, ph, pb, pg⟩ := pk_store HP1.out (.int .i64 0) (.slice none 0 0)
    have HPH := Lib.hid ph
    have HPB := Lib.hid (pb w.heap.size w (Nat.le_refl _) hPB HB1.out)
    clear ph pb pg HG
    by_cases hr : a < 0
    · go_wp2
      refine bodyPost_ret (results_row_tmp2 rfl _ _ w.heap.size 39 #[.int .i64 0, .slice none 0 0] _ rfl HPH.out Tryd.underlying39 rfl (by kernel_rfl)) rfl ?_
      exact ⟨none, 0, 0, rfl, ⟨rfl, Nat.le_refl _, sl_nil _ _, fun _ a h => by cases h⟩, HPB.out, fun a h => by cases h⟩
    · have hr2 : (m : Int) < a := by omega
      go_wp2
      refine bodyPost_ret (results_row_tmp2 rfl _ _ w.heap.size 39 #[.int .i64 0, .slice none 0 0] _ rfl HPH.out Tryd.underlying39 rfl (by kernel_rfl)) rfl ?_
      exact ⟨none, 0, 0, rfl, ⟨rfl, Nat.le_refl _, sl_nil _ _, fun _ a h => by cases h⟩, HPB.out, fun a h => by cases h⟩
  · rw [if_neg hrg] at hG
    obtain ⟨k, hk⟩ : ∃ k : Nat, a = k := ⟨a.toNat, by omega⟩
    subst hk
    have hkm : k ≤ m := by omega
    rw [Int.toNat_natCast] at hG
    have hr1 : ¬ (k : Int) < 0 := by omega
    have hr2 : ¬ (m : Int) < (k : Int) := by omega
    have hmc : m ≤ c1 := by
      rcases HO1.out.2 with ⟨e1, e2⟩ | ⟨_, cap, _, e1, _, _, h3, _⟩
      · omega
      · injection e1 with _ _ e3
        omega
    have hcut := fun w : World => cut_from (P := Tryd.prog) 71 4 Tryd.underlying71 (by kernel_rfl) (by kernel_rfl) A1 m c1 k hkm w
    have hslb : Sl w1 1 (if c1 = k then A1 else A1.map (·.add (k * 1))) (m - k) (c1 - k) (bools (bits.drop k)) := by
      have h := (Sl.of_own HO1.out).from_ hmc hkm
      simpa [bools, List.map_drop] using h
    have hlow : ∀ a', (if c1 = k then A1 else A1.map (·.add (k * 1))) = some a' → a'.block < w1.heap.size := by
      intro a' h'
      obtain ⟨a0, e0, e1⟩ := from_block a' h'
      rw [e1]
      exact (HO1.out.lt a0.block (by rw [e0]; rfl)).2
    generalize (if c1 = k then A1 else A1.map (·.add (k * 1))) = A2 at *
    have hwk : WkAt w1.heap.size w1.heap.size (w1.alloc (.cells #[.slice none 0 0, .bool true, .slice A2 (m - k) (c1 - k), .slice none 0 0, .slice none 0 0, .int .i64 0, .int .i64 0] 110)) (startG (bits.drop k)) := by
      refine ⟨Nat.le_refl _, none, 0, 0, A2, m - k, c1 - k, none, 0, 0, none, 0, 0, Has.made _ _ _, ⟨⟨rfl, Nat.le_refl _, sl_nil _ _, fun _ a h => by cases h⟩, ⟨⟨by show (bits.drop k).length = _; rw [List.length_drop, hlen], hslb.beside _⟩, by omega, hlow⟩, rfl, rfl, World.ownsRow_nil _ _ _ _, World.ownsRow_nil _ _ _ _⟩⟩
    have hfv : Calls Tryd.prog 77 #[.pointer (some ⟨w1.heap.size, 0, none⟩), .int .i64 5] (w1.alloc (.cells #[.slice none 0 0, .bool true, .slice A2 (m - k) (c1 - k), .slice none 0 0, .slice none 0 0, .int .i64 0, .int .i64 0] 110)) fun e w' =>
        e = .returned (.int .i64 (oneS 5 (startG (bits.drop k))).1) ∧ WkAt w1.heap.size w1.heap.size w' (oneS 5 (startG (bits.drop k))).2 ∧ Fr w1.heap.size (w1.alloc (.cells #[.slice none 0 0, .bool true, .slice A2 (m - k) (c1 - k), .slice none 0 0, .slice none 0 0, .int .i64 0, .int .i64 0] 110)) w' :=
      one_any w1.heap.size w1.heap.size 5 (by decide) (startG (bits.drop k)) _ 1 hwk (by simp) (by
        have := inv_get (bits := bits.drop k) (by rw [List.length_drop]; omega)
        simpa using this)
    have HFV := Lib.hid hfv; clear hfv
    have hPlt : w.heap.size < w1.heap.size := HP1.out.lt
    have hf5 : (oneS 5 (startG (bits.drop k))).2.e = 0 → ∃ i R, mayOf 5 i = true ∧ oneS 5 (startG (bits.drop k)) = (i, { startG (bits.drop k) with bits := R, out := [(i, 8)] }) := fun h => by
      obtain ⟨i, R, hm, hb⟩ := five_took h
      exact ⟨i, R, hm, five_ok hm hb⟩
    have HF5 := Lib.hid hf5; clear hf5
    have hinv : Inv (oneS 5 (startG (bits.drop k))).2 1 := inv_one 5 (by decide) (by decide) (startG (bits.drop k)) 1 (by
      have := inv_get (bits := bits.drop k) (by rw [List.length_drop]; omega)
      simpa using this)
    have HI := Lib.hid hinv; have HBA := Lib.hid (HB1.out.alloc hPB (.cells #[.slice none 0 0, .bool true, .slice A2 (m - k) (c1 - k), .slice none 0 0, .slice none 0 0, .int .i64 0, .int .i64 0] 110))
    have HPA : Hid (Has (w1.alloc (.cells #[.slice none 0 0, .bool true, .slice A2 (m - k) (c1 - k), .slice none 0 0, .slice none 0 0, .int .i64 0, .int .i64 0] 110)) w.heap.size 39 #[.int .i64 0, .slice none 0 0]) := HP1.out.beside _
    have HGG := Lib.hid hG
    clear hwk hinv hG hslb hlow HG hlen HO1 HP1 hrg
    generalize oneS 5 (startG (bits.drop k)) = p5 at *
    go_wp2_with fail
    refine HFV.out.mono ?_
    rintro e w2 ⟨rfl, hwk2, hfr2⟩
    have HB2 := Lib.hid (HBA.out.trans (hfr2.b.mono hPB))
    have HP2 : Hid (Has w2 w.heap.size 39 #[.int .i64 0, .slice none 0 0]) := HPA.out.under hfr2.b hPlt
    have HS2 : Hid (w1.heap.size < w2.heap.size) := Lib.hid (by have := hfr2.b.size; simp at this; omega)
    have HWK := Lib.hid hwk2
    obtain ⟨h0, AV, nV, cV, AB, nB, cB, AO, nO, cO, AG, nG, cG, hh, hr⟩ := hwk2
    have k5 : w2.cell? ⟨w1.heap.size, 5, none⟩ = some (.int .i64 p5.2.e) := by rw [hh.cell]; rfl
    clear hh hr hfr2 HFV HBA HPA
    by_cases he5 : p5.2.e = 0
    · rw [he5] at k5
      obtain ⟨i5, R5, hm5, hp5⟩ := HF5.out he5
      have hrd : p5.2.rd = true := by rw [hp5]; rfl
      have ho5 : p5.2.out = [(p5.1, 8)] := by rw [hp5]
      have HF6 := Lib.hid (And.intro hrd ho5)
      have hG := HGG.out
      rw [if_neg (by omega)] at hG
      have HE5 := Lib.hid he5
      clear HF5 hrd ho5 hp5 hm5 HGG he5
      cases hk : knownB p5.1
      · rw [if_pos hk] at hG
        subst hG
        have hkn := fun w => known_any p5.1 w
        rw [hk] at hkn
        have HK := Lib.hid hkn; clear hkn hk
        obtain ⟨⟨p0, pf0, r1, rf1⟩, ⟨p1, pf1⟩, ph, pb, pg⟩ := pk_store HP2.out (.int .i64 0) (.slice none 0 0)
        have HPH := Lib.hid ph
        have HPB := Lib.hid (pb w.heap.size w (Nat.le_refl _) (by have := HS2.out; omega) HB2.out)
        clear ph pb pg HI
        go_wp2_with fail
        refine (HK.out _).mono ?_
        rintro e w' ⟨rfl, rfl⟩
        go_wp2
        refine bodyPost_ret (results_row_tmp2 rfl _ _ w.heap.size 39 #[.int .i64 0, .slice none 0 0] _ rfl HPH.out Tryd.underlying39 rfl (by kernel_rfl)) rfl ?_
        exact ⟨none, 0, 0, rfl, ⟨rfl, Nat.le_refl _, sl_nil _ _, fun _ a h => by cases h⟩, HPB.out, fun a h => by cases h⟩
      · rw [if_neg (by rw [hk]; decide)] at hG
        have hkn := fun w => known_any p5.1 w
        rw [hk] at hkn
        have HK := Lib.hid hkn; clear hkn
        obtain ⟨pre, a0, post, sh⟩ := shape_of hk
        have HGR := Lib.hid (fun w => grammar_any p5.1 w)
        have HWD := Lib.hid (fun w => words_any (gramOf p5.1) sh.size w)
        rw [sh.words] at HWD
        have HSH := Lib.hid sh; have HKB := Lib.hid hk
        have HGG := Lib.hid hG
        clear sh hk hG
        go_wp2_with fail
        refine (HK.out _).mono ?_
        rintro e w' ⟨rfl, rfl⟩
        go_wp2_with fail
        refine (HGR.out _).mono ?_
        rintro e w5 ⟨rfl, rfl⟩
        go_wp2_with fail
        refine (HWD.out _).mono ?_
        rintro e w6 ⟨A6, c6, rfl, ho6, hb6⟩
        have hlen : (wordsL (astOf p5.1)).length ≤ 1048576 := by
          have := (wstep_le (gramOf p5.1) ((gramOf p5.1).size + 1)).2
          have h2 : wordsOf (gramOf p5.1) = wordsL (astOf p5.1) := HSH.out.words
          unfold wordsOf at h2
          rw [h2] at this
          have := HSH.out.size
          omega
        have HR := Lib.hid (run_any _ (astOf p5.1) (Nat.lt_succ_self _) HSH.out.good w1.heap.size w1.heap.size p5.2 w6 A6 _ c6 0 (wk_under HWK.out hb6 (Nat.le_of_lt HS2.out)) (Nat.le_trans (Nat.le_of_lt HS2.out) hb6.size) (by rw [HSH.out.seven]; exact HI.out) hlen (StrSl.of_own ho6))
        have HB6 := Lib.hid (HB2.out.trans (hb6.mono (by have := HS2.out; omega)))
        have HP6 := Lib.hid (HP2.out.under hb6 (by have := HS2.out; omega))
        clear ho6 hb6 hlen HWD HGR HK HP2 HB2 k5 h0
        go_wp2_with fail
        refine HR.out.mono ?_
        rintro e w7 ⟨rfl, hwk7, hfr7⟩
        have HB7 := Lib.hid (HB6.out.trans (hfr7.b.mono hPB))
        have HP7 := Lib.hid (HP6.out.under hfr7.b hPlt)
        have HS7 : Hid (w.heap.size ≤ w7.heap.size) := Lib.hid HB7.out.size
        have hform := wh_of_run HKB.out (s := p5.2) HE5.out
        have hinv := inv_runL (astOf p5.1) 0 p5.2 0 HSH.out.good (by rw [HSH.out.seven]; exact HI.out)
        have hG := HGG.out
        obtain ⟨S, hSS⟩ : ∃ S, runL (astOf p5.1) 0 p5.2 = S := ⟨_, rfl⟩
        rw [hSS] at hwk7 hform hinv hG
        obtain ⟨h0, AV, nV, cV, AB, nB, cB, AO, nO, cO, AG, nG, cG, hh, hr⟩ := hwk7
        have k3 : w7.cell? ⟨w1.heap.size, 3, none⟩ = some (.slice AO nO cO) := by rw [hh.cell]; rfl
        have k4 : w7.cell? ⟨w1.heap.size, 4, none⟩ = some (.slice AG nG cG) := by rw [hh.cell]; rfl
        have k5 : w7.cell? ⟨w1.heap.size, 5, none⟩ = some (.int .i64 S.e) := by rw [hh.cell]; rfl
        have k6 : w7.cell? ⟨w1.heap.size, 6, none⟩ = some (.int .i64 S.place) := by rw [hh.cell]; rfl
        have HRR := Lib.hid hr; have HFM := Lib.hid hform; have HNV := Lib.hid hinv; have HSS := Lib.hid hSS; have HGG2 := Lib.hid hG
        clear hh hr hfr7 hform hinv hSS hG HGG HR HSH HWK HI HP6 HB6
        by_cases he : S.e = 0
        · rw [he] at k5
          obtain ⟨D1, D2, wh, _, hgt⟩ := HFM.out he
          obtain ⟨hrd, ho5⟩ := HF6.out
          obtain ⟨n, R2, hm7, hbits⟩ := hgt hrd
          have hS := wh.get p5.2 R2 n hrd HE5.out hm7 hbits
          rw [HSS.out] at hS
          have hout : S.out = [(p5.1, 8)] ++ D1 ++ (n, 13) :: D2 := by rw [hS, ← ho5]
          have hpl : S.place = ((([(p5.1, (8 : Int))] ++ D1).length : Nat) : Int) := by rw [hS, ← ho5]
          obtain ⟨p, hp⟩ : ∃ p, ([(p5.1, (8 : Int))] ++ D1).length = p := ⟨_, rfl⟩
          rw [hp] at hpl
          have hid := known_id HKB.out
          have h7 := may_fit 7 (by decide) n hm7
          rw [show widthOf ((7 : Nat) : Int) = 13 from Go.Proofs.YtamnhnleipnhdaaDoor.w7] at h7
          have hfit : ∀ x ∈ S.out, FitP x := by
            intro x hx
            rw [hout] at hx
            exact out_fit wh hid.1 hid.2.1 h7.1 (by omega) x hx
          have hpo : p < S.out.length := by rw [hout, List.length_append, hp, List.length_cons]; omega
          have hlo := HRR.out.lo
          have hno : nO ≤ 1048576 := by have := HNV.out.o; omega
          have hsl : SlP w7 AO nO cO S.out := ⟨hlo, Sl.of_own HRR.out.o⟩
          have hto := total_any AO nO cO S.out w7 hsl hno (fun x hx => by have := hfit x hx; exact ⟨by have := this.2.2.1; omega, by have := this.2.2.2; omega⟩)
          have ht0 : (0 : Int) ≤ totalOf S.out := by rw [← laid_total (fun x hx => (hfit x hx).2.2.1)]; omega
          have hG := HGG2.out
          rw [if_neg (by omega), hpl, Int.toNat_natCast] at hG
          obtain ⟨go, capo, hvo, hgo1, hgo2⟩ := HRR.out.o.form (by omega)
          injection hvo with hvo1 _ hvo2
          subst hvo1
          subst hvo2
          have hoo := HRR.out.o
          have hca : w7.cell? ⟨go, p * 2, none⟩ = some (.int .i64 (S.out.getD p (0, 0)).1) := by
            rw [hoo.cellAt (p * 2) (by omega)]
            exact (pairs_at S.out p hpo).1
          obtain ⟨y, hy⟩ : ∃ y, (S.out.getD p (0, 0)).1 = y := ⟨_, rfl⟩
          rw [hy] at hca hG
          obtain ⟨t, ht⟩ : ∃ t, totalOf S.out = t := ⟨_, rfl⟩
          rw [ht] at hto hG ht0
          have HTO := Lib.hid hto
          have x3 : (p : Int) < nO := by omega
          have x4 : (0 : Int) ≤ p := by omega
          rw [hpl] at k6
          clear hto hsl hfit hout hpl hp hgt hS hbits hoo hlo hpo HFM ho5 hrd h7 hid wh hy ht HGG2 hgo1 hgo2
          by_cases hyt : y ≠ t
          · rw [if_pos hyt] at hG
            subst hG
            have x5 : (y != t) = true := by simp [hyt]
            have HP9 : ∀ q, Hid (Has (w7.drewN q) w.heap.size 39 #[.int .i64 0, .slice none 0 0]) := fun q => HP7.out.draws q
            clear hyt HSS HNV HRR k4 he
            go_wp2_with fail
            refine HTO.out.mono ?_
            rintro e w8 ⟨rfl, rfl⟩
            go_wp2_with fail
            go_quiet (fail)
            obtain ⟨⟨p0, pf0, r1, rf1⟩, ⟨p1, pf1⟩, ph, pb, pg⟩ := pk_store (HP9 nq).out (.int .i64 0) (.slice none 0 0)
            have HPH := Lib.hid ph
            have HPB := Lib.hid (pb w.heap.size w (Nat.le_refl _) HS7.out (below_draws HB7.out nq))
            clear ph pb pg
            go_wp2
            refine bodyPost_ret (results_row_tmp2 rfl _ _ w.heap.size 39 #[.int .i64 0, .slice none 0 0] _ rfl HPH.out Tryd.underlying39 rfl (by kernel_rfl)) rfl ?_
            exact ⟨none, 0, 0, rfl, ⟨rfl, Nat.le_refl _, sl_nil _ _, fun _ a h => by cases h⟩, HPB.out, fun a h => by cases h⟩
          · have hyt2 : y = t := by omega
            subst hyt2
            rw [if_neg (by omega)] at hG
            have x5 : (y != y) = false := by simp
            have HP9 : ∀ q, Hid (Has (w7.drewN q) w.heap.size 39 #[.int .i64 0, .slice none 0 0]) := fun q => HP7.out.draws q
            by_cases h8 : 8184 < y
            · rw [if_pos h8] at hG
              subst hG
              clear hyt HSS HNV HRR k4 he
              go_wp2_with fail
              refine HTO.out.mono ?_
              rintro e w8 ⟨rfl, rfl⟩
              go_wp2_with fail
              go_quiet (fail)
              obtain ⟨⟨p0, pf0, r1, rf1⟩, ⟨p1, pf1⟩, ph, pb, pg⟩ := pk_store (HP9 nq).out (.int .i64 0) (.slice none 0 0)
              have HPH := Lib.hid ph
              have HPB := Lib.hid (pb w.heap.size w (Nat.le_refl _) HS7.out (below_draws HB7.out nq))
              clear ph pb pg
              go_wp2
              refine bodyPost_ret (results_row_tmp2 rfl _ _ w.heap.size 39 #[.int .i64 0, .slice none 0 0] _ rfl HPH.out Tryd.underlying39 rfl (by kernel_rfl)) rfl ?_
              exact ⟨none, 0, 0, rfl, ⟨rfl, Nat.le_refl _, sl_nil _ _, fun _ a h => by cases h⟩, HPB.out, fun a h => by cases h⟩
            · rw [if_neg h8] at hG
              subst hG
              have hog := HRR.out.g
              have hlg := HRR.out.lg
              have hgn : ∀ w', w7.grownBy w' (some w.heap.size) → SlI w'.heap.size w' AG nG cG S.got := fun w' hgr => by
                have hk : w'.ownsRow w1.heap.size 3 1 (.slice AG nG cG) nG (ints S.got) := own_keep hog hgr (by
                  intro he
                  have := (hog.lt _ he).1
                  omega)
                exact sli_own hk hlg
              have HGN := Lib.hid hgn
              have hab : ∀ a, AG = some a → w.heap.size ≤ a.block := fun a h => by
                have := (hog.lt a.block (by rw [h]; rfl)).1
                omega
              have HAB := Lib.hid hab
              have k4d : ∀ q, (w7.drewN q).cell? ⟨w1.heap.size, 4, none⟩ = some (.slice AG nG cG) := fun _ => k4
              have x6 : ¬ (8184 : Int) < y := h8
              have x7 : (k : Int) ≤ 16000 := by omega
              clear hyt HSS HNV HRR he hog hlg hgn hab
              go_wp2_with fail
              refine HTO.out.mono ?_
              rintro e w8 ⟨rfl, rfl⟩
              go_wp2_with fail
              go_quiet (fail)
              obtain ⟨⟨p0, pf0, r1, rf1⟩, ⟨p1, pf1⟩, ph, pb, pg⟩ := pk_store (HP9 nq).out (.int .i64 p5.1) (.slice AG nG cG)
              have HPH := Lib.hid ph
              have HPB := Lib.hid (pb w.heap.size w (Nat.le_refl _) HS7.out (below_draws HB7.out nq))
              have HPN := Lib.hid (HGN.out _ (only_trans (only_draws (only_refl w7 _) nq) pg))
              clear ph pb pg
              go_wp2
              refine bodyPost_ret (results_row_tmp2 rfl _ _ w.heap.size 39 #[.int .i64 p5.1, .slice AG nG cG] _ rfl HPH.out Tryd.underlying39 rfl (by kernel_rfl)) rfl ?_
              exact ⟨AG, nG, cG, rfl, HPN.out, HPB.out, HAB.out⟩
        · have x2 : (S.e != 0) = true := by simp [he]
          have hG := HGG2.out
          rw [if_pos he] at hG
          subst hG
          obtain ⟨⟨p0, pf0, r1, rf1⟩, ⟨p1, pf1⟩, ph, pb, pg⟩ := pk_store HP7.out (.int .i64 0) (.slice none 0 0)
          have HPH := Lib.hid ph.draw
          have HPB := Lib.hid (below_draws (pb w.heap.size w (Nat.le_refl _) HS7.out HB7.out) 1)
          clear ph pb pg HGG2 he HFM HSS HNV HRR k3 k4 k6
          go_wp2_with fail
          go_region
          go_wp2
          refine bodyPost_ret (results_row_tmp2 rfl _ _ w.heap.size 39 #[.int .i64 0, .slice none 0 0] _ rfl HPH.out Tryd.underlying39 rfl (by kernel_rfl)) rfl ?_
          exact ⟨none, 0, 0, rfl, ⟨rfl, Nat.le_refl _, sl_nil _ _, fun _ a h => by cases h⟩, HPB.out, fun a h => by cases h⟩
    · have x2 : (p5.2.e != 0) = true := by simp [he5]
      have hG := HGG.out
      rw [if_pos he5] at hG
      subst hG
      obtain ⟨⟨p0, pf0, r1, rf1⟩, ⟨p1, pf1⟩, ph, pb, pg⟩ := pk_store HP2.out (.int .i64 0) (.slice none 0 0)
      have HPH := Lib.hid ph.draw
      have HPB := Lib.hid (below_draws (pb w.heap.size w (Nat.le_refl _) (by have := HS2.out; omega) HB2.out) 1)
      clear ph pb pg HGG HF5 HI he5
      go_wp2_with fail
      go_region
      go_wp2
      refine bodyPost_ret (results_row_tmp2 rfl _ _ w.heap.size 39 #[.int .i64 0, .slice none 0 0] _ rfl HPH.out Tryd.underlying39 rfl (by kernel_rfl)) rfl ?_
      exact ⟨none, 0, 0, rfl, ⟨rfl, Nat.le_refl _, sl_nil _ _, fun _ a h => by cases h⟩, HPB.out, fun a h => by cases h⟩
end Go.Proofs.YtamnhnleipnhdaaDoor
