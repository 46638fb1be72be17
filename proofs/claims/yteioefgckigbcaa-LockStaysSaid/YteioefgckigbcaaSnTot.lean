/-
  span, pure: how many decimetres there are; what a way goes over; the laws.
-/
import Derived.Test.YteioefgckigbcaaSnPure

import Derived.Test.YteioefgckigbcaaPlPure

namespace Go.Proofs.Yteioefgckigbcaa

def normL (l : List Sn3) : List Sn3 := formL l [] ⟨true, false, false⟩
def unionL (a b : List Sn3) : List Sn3 := formL a b ⟨true, true, true⟩
def minusL (a b : List Sn3) : List Sn3 := formL a b ⟨true, false, false⟩
def bothL (a b : List Sn3) : List Sn3 := formL a b ⟨false, false, true⟩
def withinL (a b : List Sn3) : Bool := (minusL a b).isEmpty
def meetsL (a b : List Sn3) : Bool := !(bothL a b).isEmpty
def sumN : List Sn3 → Int
  | [] => 0
  | s :: r => s.hi - s.lo + sumN r
def totalL (l : List Sn3) : Int := sumN (normL l)
theorem norm_has (l : List Sn3) (e x : Int) : hasL (normL l) e x = hasL l e x := by
  unfold normL
  rw [form_has, show hasL [] e x = false from rfl]
  cases hasL l e x <;> rfl
theorem union_has (a b : List Sn3) (e x : Int) : hasL (unionL a b) e x = (hasL a e x || hasL b e x) := by
  unfold unionL
  rw [form_has]
  cases hasL a e x <;> cases hasL b e x <;> rfl
theorem minus_has (a b : List Sn3) (e x : Int) : hasL (minusL a b) e x = (hasL a e x && !hasL b e x) := by
  unfold minusL
  rw [form_has]
  cases hasL a e x <;> cases hasL b e x <;> rfl
theorem both_has (a b : List Sn3) (e x : Int) : hasL (bothL a b) e x = (hasL a e x && hasL b e x) := by
  unfold bothL
  rw [form_has]
  cases hasL a e x <;> cases hasL b e x <;> rfl
theorem norm_normal (l : List Sn3) : normP (normL l) := form_norm _ _ _
theorem union_normal (a b : List Sn3) : normP (unionL a b) := form_norm _ _ _
theorem minus_normal (a b : List Sn3) : normP (minusL a b) := form_norm _ _ _
theorem both_normal (a b : List Sn3) : normP (bothL a b) := form_norm _ _ _
theorem norm_self {l : List Sn3} (h : normP l) : normL l = l := norm_uniq (norm_normal l) h fun e x => norm_has l e x
theorem norm_of {l m : List Sn3} (hm : normP m) (h : ∀ e x, hasL m e x = hasL l e x) : normL l = m := norm_uniq (norm_normal l) hm fun e x => (norm_has l e x).trans (h e x).symm
theorem nil_normal : normP [] := ⟨fun _ h => (by cases h), List.Pairwise.nil⟩
theorem empty_iff {l : List Sn3} (h : normP l) : l.isEmpty = true ↔ ∀ e x, hasL l e x = false := by
  constructor
  · intro h1 e x
    rw [List.isEmpty_iff.1 h1]
    rfl
  · intro h1
    rw [List.isEmpty_iff]
    exact norm_uniq h nil_normal fun e x => (h1 e x).trans rfl
theorem within_iff {a b : List Sn3} : withinL a b = true ↔ ∀ e x, hasL a e x = true → hasL b e x = true := by
  unfold withinL
  rw [empty_iff (minus_normal a b)]
  constructor
  · intro h e x h1
    have h2 := h e x
    rw [minus_has, h1] at h2
    cases h3 : hasL b e x with
    | true => rfl
    | false => rw [h3] at h2; cases h2
  · intro h e x
    rw [minus_has]
    cases h1 : hasL a e x with
    | false => rfl
    | true => rw [h e x h1]; rfl
theorem meets_iff {a b : List Sn3} : meetsL a b = true ↔ ∃ e x, hasL a e x = true ∧ hasL b e x = true := by
  have h0 : meetsL a b = false ↔ ∀ e x, hasL (bothL a b) e x = false := by
    unfold meetsL
    rw [← empty_iff (both_normal a b)]
    cases (bothL a b).isEmpty <;> simp
  constructor
  · intro h
    refine Classical.byContradiction fun hc => ?_
    have h1 := h0.2 fun e x => by
      rw [both_has]
      cases h2 : hasL a e x with
      | false => rfl
      | true =>
        cases h3 : hasL b e x with
        | false => rfl
        | true => exact absurd ⟨e, x, h2, h3⟩ hc
    rw [h] at h1
    cases h1
  · rintro ⟨e, x, h1, h2⟩
    cases h3 : meetsL a b with
    | true => rfl
    | false =>
      have := h0.1 h3 e x
      rw [both_has, h1, h2] at this
      cases this

/-! How many. -/
def cntX : Nat → (Int → Bool) → Nat
  | 0, _ => 0
  | n + 1, p => cntX n p + (if p n = true then 1 else 0)
theorem cntX_or {p q : Int → Bool} (n : Nat) (h : ∀ x, ¬ (p x = true ∧ q x = true)) : cntX n (fun x => p x || q x) = cntX n p + cntX n q := by
  induction n with
  | zero => rfl
  | succ n ih =>
    rw [cntX, cntX, cntX, ih]
    have h1 := h n
    cases hp : p n <;> cases hq : q n
    · simp
    · simp; omega
    · simp; omega
    · exact absurd ⟨hp, hq⟩ h1
theorem cntX_none {p : Int → Bool} (n : Nat) (h : ∀ x, p x = false) : cntX n p = 0 := by
  induction n with
  | zero => rfl
  | succ n ih => rw [cntX, ih, h]; rfl
theorem cntX_iv {p : Int → Bool} {a b : Int} (n : Nat) (h : ∀ x, p x = true ↔ a ≤ x ∧ x < b) (h0 : 0 ≤ a) (hab : a ≤ b) : (cntX n p : Int) = if (n : Int) ≤ a then 0 else if (n : Int) ≤ b then n - a else b - a := by
  induction n with
  | zero => rw [cntX, if_pos (by omega)]; rfl
  | succ n ih =>
    rw [cntX]
    have h1 := h n
    by_cases hp : p n = true
    · have h2 := h1.1 hp
      rw [if_pos hp, Int.natCast_add, ih]
      (repeat' split) <;> omega
    · have h2 : ¬ (a ≤ (n : Int) ∧ (n : Int) < b) := fun h3 => hp (h1.2 h3)
      rw [if_neg hp, Nat.add_zero, ih]
      (repeat' split) <;> omega
def cntE (n : Nat) : Nat → (Int → Int → Bool) → Nat
  | 0, _ => 0
  | e + 1, p => cntE n e p + cntX n (p e)
theorem cntE_or {p q : Int → Int → Bool} (n m : Nat) (h : ∀ e x, ¬ (p e x = true ∧ q e x = true)) : cntE n m (fun e x => p e x || q e x) = cntE n m p + cntE n m q := by
  induction m with
  | zero => rfl
  | succ m ih => rw [cntE, cntE, cntE, ih, cntX_or n (h m)]; omega
theorem cntE_none {p : Int → Int → Bool} (n m : Nat) (h : ∀ e x, p e x = false) : cntE n m p = 0 := by
  induction m with
  | zero => rfl
  | succ m ih => rw [cntE, ih, cntX_none n (h m)]
theorem cntE_span {s : Sn3} (n m : Nat) (hs : okN s) (hn : s.hi ≤ n) : (cntE n m (hasS s) : Int) = if s.edge < m then s.hi - s.lo else 0 := by
  have hs' := hs
  obtain ⟨h1, h2, h3, h4⟩ := hs'
  induction m with
  | zero => rw [cntE, if_neg (by omega)]; rfl
  | succ m ih =>
    rw [cntE, Int.natCast_add, ih]
    by_cases he : s.edge = m
    · rw [if_neg (by omega), if_pos (by omega), cntX_iv (a := s.lo) (b := s.hi) n (fun x => by rw [hasS_iff]; omega) h2 (by omega), if_neg (by omega)]
      split <;> omega
    · rw [cntX_none n fun x => by
        cases hq : hasS s m x with
        | false => rfl
        | true => exact absurd (hasS_iff.1 hq).2.2.2.1 he]
      split <;> split <;> omega
def djP (l : List Sn3) : Prop := (∀ s ∈ l, okN s) ∧ l.Pairwise fun s t => ∀ e x, ¬ (hasS s e x = true ∧ hasS t e x = true)
theorem norm_dj {l : List Sn3} (h : normP l) : djP l := by
  refine ⟨h.1, h.2.imp fun hst e x => ?_⟩
  rintro ⟨h1, h2⟩
  have h3 := hasS_iff.1 h1
  have h4 := hasS_iff.1 h2
  rcases hst with h5 | ⟨h5, h6⟩ <;> omega
theorem sum_cnt {l : List Sn3} (n m : Nat) (h : djP l) (hn : ∀ s ∈ l, s.hi ≤ n) (hm : ∀ s ∈ l, s.edge < m) : sumN l = cntE n m (hasL l) := by
  induction l with
  | nil => rw [cntE_none (p := hasL []) n m fun e x => rfl]; rfl
  | cons s r ih =>
    have h1 := List.pairwise_cons.1 h.2
    have hd : ∀ e x, ¬ (hasS s e x = true ∧ hasL r e x = true) := by
      rintro e x ⟨h2, h3⟩
      obtain ⟨t, h4, h5⟩ := hasL_iff.1 h3
      exact h1.1 t h4 e x ⟨h2, h5⟩
    have e0 : hasL (s :: r) = fun e x => hasS s e x || hasL r e x := funext fun e => funext fun x => hasL_cons s r e x
    rw [e0, cntE_or n m hd, Int.natCast_add, cntE_span n m (h.1 s (List.mem_cons_self ..)) (hn s (List.mem_cons_self ..)), if_pos (hm s (List.mem_cons_self ..)), ← ih ⟨fun t ht => h.1 t (List.mem_cons_of_mem _ ht), h1.2⟩ (fun t ht => hn t (List.mem_cons_of_mem _ ht)) fun t ht => hm t (List.mem_cons_of_mem _ ht)]
    rfl
theorem edge_top (l : List Sn3) : ∃ m : Nat, ∀ s ∈ l, s.edge < m := by
  induction l with
  | nil => exact ⟨0, fun _ h => (by cases h)⟩
  | cons s r ih =>
    obtain ⟨m, hm⟩ := ih
    refine ⟨m + s.edge.toNat + 1, fun t ht => ?_⟩
    rcases List.mem_cons.1 ht with rfl | ht
    · omega
    · have := hm t ht
      omega
theorem sum_split {a c d : List Sn3} (ha : djP a) (hc : djP c) (hd : djP d) (h1 : ∀ e x, hasL a e x = (hasL c e x || hasL d e x)) (h2 : ∀ e x, ¬ (hasL c e x = true ∧ hasL d e x = true)) : sumN a = sumN c + sumN d := by
  obtain ⟨m, hm⟩ := edge_top (a ++ (c ++ d))
  obtain ⟨n, hn⟩ : ∃ n : Nat, n = 1000000 := ⟨_, rfl⟩
  have hb : ∀ l, djP l → ∀ s ∈ l, s.hi ≤ n := fun l hl s hs => by
    have := (hl.1 s hs).2.2.2
    omega
  rw [sum_cnt n m ha (hb a ha) fun s hs => hm s (List.mem_append_left _ hs), sum_cnt n m hc (hb c hc) fun s hs => hm s (List.mem_append_right _ (List.mem_append_left _ hs)), sum_cnt n m hd (hb d hd) fun s hs => hm s (List.mem_append_right _ (List.mem_append_right _ hs))]
  have e0 : hasL a = fun e x => hasL c e x || hasL d e x := funext fun e => funext fun x => h1 e x
  rw [e0, cntE_or n m h2, Int.natCast_add]
theorem sum_same {a c : List Sn3} (ha : djP a) (hc : djP c) (h : ∀ e x, hasL a e x = hasL c e x) : sumN a = sumN c := by
  rw [sum_split (d := []) ha hc (norm_dj nil_normal) (fun e x => by rw [h, show hasL [] e x = false from rfl, Bool.or_false]) fun e x h => by cases h.2]
  exact Int.add_zero _
theorem sum_bound {l : List Sn3} (h : ∀ s ∈ l, okN s) : (l.length : Int) ≤ sumN l ∧ sumN l ≤ l.length * 1000000 := by
  induction l with
  | nil => exact ⟨Int.le_refl _, Int.le_refl _⟩
  | cons s r ih =>
    have h1 := ih fun t ht => h t (List.mem_cons_of_mem _ ht)
    have h2 := h s (List.mem_cons_self ..)
    obtain ⟨h3, h4, h5, h6⟩ := h2
    show (((s :: r).length : Nat) : Int) ≤ s.hi - s.lo + sumN r ∧ s.hi - s.lo + sumN r ≤ ((s :: r).length : Nat) * 1000000
    rw [List.length_cons]
    omega

/-! SpanParts. -/
theorem parts (a b : List Sn3) : unionL (bothL a b) (minusL a b) = normL a ∧ bothL b a = bothL a b ∧ unionL a b = unionL b a ∧ meetsL (bothL a b) (minusL a b) = false ∧ totalL (bothL a b) + totalL (minusL a b) = totalL a ∧ withinL (bothL a b) b = true ∧ withinL a (unionL a b) = true := by
  have hd : ∀ e x, ¬ (hasL (bothL a b) e x = true ∧ hasL (minusL a b) e x = true) := fun e x h => by
    rw [both_has, minus_has] at h
    cases h1 : hasL a e x <;> cases h2 : hasL b e x <;> rw [h1, h2] at h <;> simp at h
  have hu : ∀ e x, hasL a e x = (hasL (bothL a b) e x || hasL (minusL a b) e x) := fun e x => by
    rw [both_has, minus_has]
    cases hasL a e x <;> cases hasL b e x <;> rfl
  refine ⟨norm_uniq (union_normal _ _) (norm_normal _) fun e x => ?_, norm_uniq (both_normal _ _) (both_normal _ _) fun e x => ?_, norm_uniq (union_normal _ _) (union_normal _ _) fun e x => ?_, ?_, ?_, within_iff.2 fun e x h => ?_, within_iff.2 fun e x h => ?_⟩
  · rw [union_has, norm_has, ← hu]
  · rw [both_has, both_has, Bool.and_comm]
  · rw [union_has, union_has, Bool.or_comm]
  · cases h : meetsL (bothL a b) (minusL a b) with
    | false => rfl
    | true => obtain ⟨e, x, h1, h2⟩ := meets_iff.1 h; exact absurd ⟨h1, h2⟩ (hd e x)
  · unfold totalL
    rw [norm_self (both_normal a b), norm_self (minus_normal a b)]
    exact (sum_split (norm_dj (norm_normal a)) (norm_dj (both_normal a b)) (norm_dj (minus_normal a b)) (fun e x => by rw [norm_has, ← hu]) hd).symm
  · rw [both_has, Bool.and_eq_true] at h
    exact h.2
  · rw [union_has, h]
    rfl

/-! What a way goes over. -/
def partN (s : St3) (n a b : Int) : List Sn3 := if a < b then [if s.rev = true then ⟨s.edge, n - b, n - a⟩ else ⟨s.edge, a, b⟩] else []
def cutA (fr at_ : Int) : Int := if fr - at_ < 0 then 0 else fr - at_
def cutB (tz at_ n : Int) : Int := if n < tz - at_ then n else tz - at_
def ovGo (t : Tp3) (fr tz : Int) : List St3 → Int → List Sn3
  | [], _ => []
  | s :: r, at_ => partN s (lenAt t s) (cutA fr at_) (cutB tz at_ (lenAt t s)) ++ ovGo t fr tz r (at_ + lenAt t s)
def overE (t : Tp3) (path : List St3) (fr tz : Int) : List Sn3 × Int :=
  if lenE t path = 0 then (if edgesOk t = true ∧ ¬ (fr < 0 ∨ tz < fr ∨ sumT t path < tz) then (normL (ovGo t fr tz path 0), 0) else ([], 1)) else ([], lenE t path)
theorem cut_eqA (fr at_ : Int) : cutA fr at_ = max 0 (fr - at_) := by
  unfold cutA
  split <;> omega
theorem cut_eqB (tz at_ n : Int) : cutB tz at_ n = min n (tz - at_) := by
  unfold cutB
  split <;> omega
def posN (s : St3) (n x : Int) : Int := if s.rev = true then n - 1 - x else x
theorem part_has {s : St3} {n at_ fr tz e x : Int} (he : 0 ≤ s.edge) (hn : n ≤ 1000000) : hasL (partN s n (cutA fr at_) (cutB tz at_ n)) e x = (decide (s.edge = e ∧ 0 ≤ x ∧ x < n) && decide (fr ≤ at_ + posN s n x ∧ at_ + posN s n x < tz)) := by
  rw [cut_eqA, cut_eqB]
  unfold partN posN
  obtain ⟨se, rv⟩ := s
  dsimp only at *
  rw [Bool.eq_iff_iff, Bool.and_eq_true, decide_eq_true_eq, decide_eq_true_eq]
  split
  · rw [hasL_iff]
    simp only [List.mem_singleton, exists_eq_left]
    cases rv
    · rw [if_neg (by decide), if_neg (by decide), hasS_iff]
      dsimp only
      omega
    · rw [if_pos rfl, if_pos rfl, hasS_iff]
      dsimp only
      omega
  · rw [show hasL [] e x = false from rfl]
    cases rv
    · rw [if_neg (by decide)]
      constructor
      · intro h; cases h
      · rintro ⟨h1, h2⟩; omega
    · rw [if_pos rfl]
      constructor
      · intro h; cases h
      · rintro ⟨h1, h2⟩; omega
theorem part_ok {s : St3} {n at_ fr tz : Int} (he : 0 ≤ s.edge) (hn : n ≤ 1000000) : ∀ u ∈ partN s n (cutA fr at_) (cutB tz at_ n), okN u := by
  rw [cut_eqA, cut_eqB]
  unfold partN
  obtain ⟨se, rv⟩ := s
  dsimp only at *
  intro u hu
  split at hu
  · rw [List.mem_singleton] at hu
    subst hu
    cases rv
    · rw [if_neg (by decide)]
      unfold okN
      dsimp only
      omega
    · rw [if_pos rfl]
      unfold okN
      dsimp only
      omega
  · cases hu
theorem ov_edge {t : Tp3} {fr tz : Int} {path : List St3} {at_ e x : Int} (h : hasL (ovGo t fr tz path at_) e x = true) (hp : ∀ s ∈ path, 0 ≤ s.edge ∧ lenAt t s ≤ 1000000) : e ∈ path.map (·.edge) := by
  induction path generalizing at_ with
  | nil => cases h
  | cons s r ih =>
    have h1 := hp s (List.mem_cons_self ..)
    rw [ovGo, hasL_app, Bool.or_eq_true, part_has h1.1 h1.2] at h
    rw [List.map_cons, List.mem_cons]
    rcases h with h | h
    · rw [Bool.and_eq_true, decide_eq_true_eq] at h
      exact .inl h.1.1.symm
    · exact .inr (ih h fun u hu => hp u (List.mem_cons_of_mem _ hu))
theorem ov_union {t : Tp3} {a b c : Int} {path : List St3} {at_ e x : Int} (hab : a ≤ b) (hbc : b ≤ c) (hp : ∀ s ∈ path, 0 ≤ s.edge ∧ lenAt t s ≤ 1000000) : hasL (ovGo t a c path at_) e x = (hasL (ovGo t a b path at_) e x || hasL (ovGo t b c path at_) e x) := by
  induction path generalizing at_ with
  | nil => rfl
  | cons s r ih =>
    have h1 := hp s (List.mem_cons_self ..)
    rw [ovGo, ovGo, ovGo, hasL_app, hasL_app, hasL_app, part_has h1.1 h1.2, part_has h1.1 h1.2, part_has h1.1 h1.2, ih fun u hu => hp u (List.mem_cons_of_mem _ hu)]
    generalize posN s (lenAt t s) x = q
    generalize hasL (ovGo t a b r (at_ + lenAt t s)) e x = u
    generalize hasL (ovGo t b c r (at_ + lenAt t s)) e x = v
    rw [show decide (a ≤ at_ + q ∧ at_ + q < c) = (decide (a ≤ at_ + q ∧ at_ + q < b) || decide (b ≤ at_ + q ∧ at_ + q < c)) from by
      rw [Bool.eq_iff_iff, Bool.or_eq_true, decide_eq_true_eq, decide_eq_true_eq, decide_eq_true_eq]
      omega]
    generalize decide (a ≤ at_ + q ∧ at_ + q < b) = y
    generalize decide (b ≤ at_ + q ∧ at_ + q < c) = z
    generalize decide (s.edge = e ∧ 0 ≤ x ∧ x < lenAt t s) = k
    cases u <;> cases v <;> cases y <;> cases z <;> cases k <;> rfl
theorem ov_apart {t : Tp3} {a b c d : Int} {path : List St3} {at_ e x : Int} (hbc : b ≤ c) (hd : (path.map (·.edge)).Nodup) (hp : ∀ s ∈ path, 0 ≤ s.edge ∧ lenAt t s ≤ 1000000) : ¬ (hasL (ovGo t a b path at_) e x = true ∧ hasL (ovGo t c d path at_) e x = true) := by
  induction path generalizing at_ with
  | nil => intro h; cases h.1
  | cons s r ih =>
    have h1 := hp s (List.mem_cons_self ..)
    rw [List.map_cons, List.nodup_cons] at hd
    have hr : ∀ u ∈ r, 0 ≤ u.edge ∧ lenAt t u ≤ 1000000 := fun u hu => hp u (List.mem_cons_of_mem _ hu)
    rw [ovGo, ovGo, hasL_app, hasL_app, part_has h1.1 h1.2, part_has h1.1 h1.2, Bool.or_eq_true, Bool.or_eq_true, Bool.and_eq_true, Bool.and_eq_true, decide_eq_true_eq, decide_eq_true_eq, decide_eq_true_eq]
    rintro ⟨h2 | h2, h3 | h3⟩
    · omega
    · exact hd.1 (by rw [h2.1.1]; exact ov_edge h3 hr)
    · exact hd.1 (by rw [h3.1.1]; exact ov_edge h2 hr)
    · exact ih hd.2 hr ⟨h2, h3⟩
theorem ov_dj {t : Tp3} {fr tz : Int} {path : List St3} {at_ : Int} (hd : (path.map (·.edge)).Nodup) (hp : ∀ s ∈ path, 0 ≤ s.edge ∧ lenAt t s ≤ 1000000) : djP (ovGo t fr tz path at_) := by
  induction path generalizing at_ with
  | nil => exact norm_dj nil_normal
  | cons s r ih =>
    have h1 := hp s (List.mem_cons_self ..)
    rw [List.map_cons, List.nodup_cons] at hd
    have hr : ∀ u ∈ r, 0 ≤ u.edge ∧ lenAt t u ≤ 1000000 := fun u hu => hp u (List.mem_cons_of_mem _ hu)
    have h2 := ih (at_ := at_ + lenAt t s) hd.2 hr
    rw [ovGo]
    refine ⟨fun u hu => ?_, List.pairwise_append.2 ⟨?_, h2.2, fun u hu v hv e x => ?_⟩⟩
    · rcases List.mem_append.1 hu with hu | hu
      · exact part_ok h1.1 h1.2 u hu
      · exact h2.1 u hu
    · unfold partN
      split
      · exact List.pairwise_singleton _ _
      · exact .nil
    · rintro ⟨h3, h4⟩
      have h5 : hasL (partN s (lenAt t s) (cutA fr at_) (cutB tz at_ (lenAt t s))) e x = true := hasL_iff.2 ⟨u, hu, h3⟩
      rw [part_has h1.1 h1.2, Bool.and_eq_true, decide_eq_true_eq] at h5
      exact hd.1 (by rw [h5.1.1]; exact ov_edge (hasL_iff.2 ⟨v, hv, h4⟩) hr)
theorem sumN_app (a b : List Sn3) : sumN (a ++ b) = sumN a + sumN b := by
  induction a with
  | nil => exact (Int.zero_add _).symm
  | cons s r ih =>
    show s.hi - s.lo + sumN (r ++ b) = s.hi - s.lo + sumN r + sumN b
    rw [ih]
    omega
theorem part_sum (s : St3) (n a b : Int) : sumN (partN s n a b) = max 0 (b - a) := by
  unfold partN
  obtain ⟨se, rv⟩ := s
  split
  · cases rv
    · show (b - a) + 0 = _
      omega
    · show (n - a - (n - b)) + 0 = _
      omega
  · show (0 : Int) = _
    omega
theorem ov_sum {t : Tp3} {fr tz : Int} {path : List St3} {at_ : Int} (hft : fr ≤ tz) (hp : ∀ s ∈ path, 1 ≤ lenAt t s) : sumN (ovGo t fr tz path at_) = max 0 (min tz (at_ + sumT t path) - max fr at_) ∧ 0 ≤ sumT t path := by
  induction path generalizing at_ with
  | nil =>
    refine ⟨?_, Int.le_refl _⟩
    show (0 : Int) = max 0 (min tz (at_ + 0) - max fr at_)
    omega
  | cons s r ih =>
    have h1 := hp s (List.mem_cons_self ..)
    have h2 := ih (at_ := at_ + lenAt t s) fun u hu => hp u (List.mem_cons_of_mem _ hu)
    rw [ovGo, sumN_app, part_sum, h2.1, cut_eqA, cut_eqB, show sumT t (s :: r) = lenAt t s + sumT t r from rfl]
    have h3 := h2.2
    generalize lenAt t s = n at *
    generalize sumT t r = q at *
    omega
theorem ov_total {t : Tp3} {fr tz : Int} {path : List St3} (h0 : 0 ≤ fr) (hft : fr ≤ tz) (hto : tz ≤ sumT t path) (hd : (path.map (·.edge)).Nodup) (hp : ∀ s ∈ path, 0 ≤ s.edge ∧ 1 ≤ lenAt t s ∧ lenAt t s ≤ 1000000) : totalL (normL (ovGo t fr tz path 0)) = tz - fr := by
  unfold totalL
  rw [norm_self (norm_normal _), sum_same (norm_dj (norm_normal _)) (ov_dj hd fun s hs => ⟨(hp s hs).1, (hp s hs).2.2⟩) (norm_has _), (ov_sum hft fun s hs => (hp s hs).2.1).1]
  omega
theorem way_nums {t : Tp3} {path : List St3} (h : lenE t path = 0) (ht : edgesOk t = true) : ∀ s ∈ path, 0 ≤ s.edge ∧ 1 ≤ lenAt t s ∧ lenAt t s ≤ 1000000 := fun s hs => by
  have h1 := (len_ok h).2.2.1 s hs
  have h2 := lenAt_ok ht h1
  unfold edgeB at h1
  simp only [Bool.and_eq_true, decide_eq_true_eq] at h1
  exact ⟨h1.1, h2⟩
theorem over_zero {t : Tp3} {path : List St3} {fr tz : Int} (h : (overE t path fr tz).2 = 0) : lenE t path = 0 ∧ edgesOk t = true ∧ 0 ≤ fr ∧ fr ≤ tz ∧ tz ≤ sumT t path ∧ (overE t path fr tz).1 = normL (ovGo t fr tz path 0) := by
  unfold overE at h ⊢
  split at h
  · rename_i h1
    rw [if_pos h1]
    split at h
    · rename_i h2
      rw [if_pos h2]
      exact ⟨h1, h2.1, by have := h2.2; omega, by have := h2.2; omega, by have := h2.2; omega, rfl⟩
    · exact absurd h (show ¬ (1 : Int) = 0 by decide)
  · rename_i h1
    exact absurd h h1
theorem over_ok {t : Tp3} {path : List St3} {fr tz : Int} (h1 : lenE t path = 0) (h2 : edgesOk t = true) (h3 : 0 ≤ fr) (h4 : fr ≤ tz) (h5 : tz ≤ sumT t path) : overE t path fr tz = (normL (ovGo t fr tz path 0), 0) := by
  unfold overE
  rw [if_pos h1, if_pos ⟨h2, by omega⟩]
theorem over_normal (t : Tp3) (path : List St3) (fr tz : Int) : normP (overE t path fr tz).1 := by
  unfold overE
  split
  · split
    · exact norm_normal _
    · exact nil_normal
  · exact nil_normal
theorem back_nodup {path : List St3} (h : (path.map (·.edge)).Nodup) : ((backL path).map (·.edge)).Nodup := by
  have e : (backL path).map (·.edge) = (path.map (·.edge)).reverse := by
    unfold backL
    rw [List.map_reverse, List.map_map]
    rfl
  rw [e]
  exact List.pairwise_reverse.2 (List.Pairwise.imp (fun hab e => hab e.symm) h)
/-- SpanLong. -/
theorem span_long {t : Tp3} {path : List St3} {a b c : Int} (hd : (path.map (·.edge)).Nodup) (hx : (overE t path a b).2 = 0) (hy : (overE t path b c).2 = 0) :
    (overE t path a c).2 = 0 ∧ (overE t (backL path) 0 (c - a)).2 = 0 ∧ unionL (overE t path a b).1 (overE t path b c).1 = (overE t path a c).1 ∧ meetsL (overE t path a b).1 (overE t path b c).1 = false ∧ totalL (overE t path a c).1 = c - a ∧ totalL (overE t path a b).1 = b - a ∧ totalL (overE t (backL path) 0 (c - a)).1 = c - a := by
  obtain ⟨h1, h2, h3, h4, h5, h6⟩ := over_zero hx
  obtain ⟨-, -, h7, h8, h9, h10⟩ := over_zero hy
  have hw := way_nums h1 h2
  have hw2 : ∀ s ∈ path, 0 ≤ s.edge ∧ lenAt t s ≤ 1000000 := fun s hs => ⟨(hw s hs).1, (hw s hs).2.2⟩
  have hz := over_ok h1 h2 h3 (Int.le_trans h4 h8) h9
  have hb := over_ok (t := t) (path := backL path) (fr := 0) (tz := c - a) (len_back h1) h2 (Int.le_refl _) (by omega) (by rw [sum_back]; omega)
  rw [hz, hb, h6, h10]
  refine ⟨rfl, rfl, norm_uniq (union_normal _ _) (norm_normal _) fun e x => ?_, ?_, ov_total h3 (by omega) h9 hd hw, ov_total h3 h4 h5 hd hw, ?_⟩
  · rw [union_has, norm_has, norm_has, norm_has, ← ov_union h4 h8 hw2]
  · cases hm : meetsL (normL (ovGo t a b path 0)) (normL (ovGo t b c path 0)) with
    | false => rfl
    | true =>
      obtain ⟨e, x, hp1, hp2⟩ := meets_iff.1 hm
      rw [norm_has] at hp1 hp2
      exact absurd ⟨hp1, hp2⟩ (ov_apart (Int.le_refl b) hd hw2)
  · rw [ov_total (Int.le_refl _) (by omega) (by rw [sum_back]; omega) (back_nodup hd) (way_nums (len_back h1) h2)]
    omega
end Go.Proofs.Yteioefgckigbcaa
