/-
  span as landed, pure: the bounds of two lists, sorted; the sweep over them yields the pieces; what is kept of them, glued, is the normal form.
-/
import Derived.Test.YteioefgckigbcaaSnTot

namespace Go.Proofs.Yteioefgckigbcaa

structure Bd4 where
  edge : Int
  at_ : Int
  a : Int
  b : Int
structure Pc5 where
  s : Sn3
  inA : Bool
  inB : Bool
def validB (s : Sn3) : Bool := decide (0 ≤ s.edge) && (decide (0 ≤ s.lo) && (decide (s.lo < s.hi) && decide (s.hi ≤ 1000000)))
theorem valid_iff {s : Sn3} : validB s = true ↔ okN s := by
  unfold validB okN
  simp only [Bool.and_eq_true, decide_eq_true_eq]
def bdsS (a b : Int) (s : Sn3) : List Bd4 := if validB s = true then [⟨s.edge, s.lo, a, b⟩, ⟨s.edge, s.hi, -a, -b⟩] else []
def bdsL (a b : Int) (l : List Sn3) : List Bd4 := l.flatMap (bdsS a b)
theorem bdsL_snoc (a b : Int) (l : List Sn3) (s : Sn3) : bdsL a b (l ++ [s]) = bdsL a b l ++ bdsS a b s := by
  unfold bdsL
  rw [List.flatMap_append]
  simp
theorem bds_len (a b : Int) (l : List Sn3) : (bdsL a b l).length ≤ 2 * l.length := by
  induction l with
  | nil => exact Nat.le_refl _
  | cons s r ih =>
    unfold bdsL at ih ⊢
    rw [List.flatMap_cons, List.length_append, List.length_cons]
    have : (bdsS a b s).length ≤ 2 := by unfold bdsS; split <;> simp
    omega
def befB (x y : Bd4) : Bool := decide (x.edge < y.edge) || (decide (x.edge = y.edge) && decide (x.at_ < y.at_))
theorem befB_iff {x y : Bd4} : befB x y = true ↔ x.edge < y.edge ∨ (x.edge = y.edge ∧ x.at_ < y.at_) := by
  unfold befB
  simp
/-- Bounds at most (e, x), summed. -/
def sumK (f : Bd4 → Int) : List Bd4 → Int
  | [] => 0
  | d :: r => f d + sumK f r
theorem sumK_app (f : Bd4 → Int) (l m : List Bd4) : sumK f (l ++ m) = sumK f l + sumK f m := by
  induction l with
  | nil => simp [sumK]
  | cons d r ih => rw [List.cons_append, sumK, sumK, ih]; omega
theorem sumK_perm {f : Bd4 → Int} {l m : List Bd4} (h : l.Perm m) : sumK f l = sumK f m := by
  induction h with
  | nil => rfl
  | cons d _ ih => rw [sumK, sumK, ih]
  | swap d e l => simp only [sumK]; omega
  | trans _ _ h1 h2 => rw [h1, h2]
theorem sumK_zero {f : Bd4 → Int} {l : List Bd4} (h : ∀ d ∈ l, f d = 0) : sumK f l = 0 := by
  induction l with
  | nil => rfl
  | cons d r ih => rw [sumK, h d (List.mem_cons_self ..), ih fun e he => h e (List.mem_cons_of_mem _ he)]; rfl
def upK (e x : Int) (d : Bd4) : Prop := d.edge < e ∨ (d.edge = e ∧ d.at_ ≤ x)
instance (e x : Int) (d : Bd4) : Decidable (upK e x d) := by unfold upK; infer_instance
def upA (e x : Int) (d : Bd4) : Int := if upK e x d then d.a else 0
def upB (e x : Int) (d : Bd4) : Int := if upK e x d then d.b else 0
instance (s : Sn3) : Decidable (okN s) := by unfold okN; infer_instance
/-- How many spans have it. -/
def cntL (l : List Sn3) (e x : Int) : Int :=
  match l with
  | [] => 0
  | s :: r => (if okN s ∧ hasS s e x = true then 1 else 0) + cntL r e x
theorem cntL_cons (s : Sn3) (r : List Sn3) (e x : Int) : cntL (s :: r) e x = (if okN s ∧ hasS s e x = true then 1 else 0) + cntL r e x := rfl
theorem has_ok {s : Sn3} {e x : Int} (h : hasS s e x = true) : okN s := by
  have := hasS_iff.1 h
  exact ⟨by omega, by omega, by omega, by omega⟩
theorem cnt_ge (l : List Sn3) (e x : Int) : 0 ≤ cntL l e x := by
  induction l with
  | nil => exact Int.le_refl _
  | cons s r ih => rw [cntL_cons]; split <;> omega
theorem cnt_pos {l : List Sn3} {e x : Int} : 0 < cntL l e x ↔ hasL l e x = true := by
  induction l with
  | nil => simp [cntL, hasL]
  | cons s r ih =>
    rw [hasL_cons, Bool.or_eq_true, ← ih]
    have h0 := cnt_ge r e x
    rw [cntL_cons]
    constructor
    · intro h
      split at h
      · rename_i h1; exact .inl h1.2
      · exact .inr (by omega)
    · rintro (h | h)
      · rw [if_pos ⟨has_ok h, h⟩]; omega
      · split <;> omega
theorem cnt_dec (l : List Sn3) (e x : Int) : decide (0 < cntL l e x) = hasL l e x := by
  rw [Bool.eq_iff_iff, decide_eq_true_eq, cnt_pos]
theorem sum_bds {f : Bd4 → Int} {a b : Int} (l : List Sn3) (e x : Int) (g : Int) (h1 : ∀ s, okN s → f ⟨s.edge, s.lo, a, b⟩ + f ⟨s.edge, s.hi, -a, -b⟩ = if hasS s e x = true then g else 0) : sumK f (bdsL a b l) = g * cntL l e x := by
  induction l with
  | nil => simp [bdsL, sumK, cntL]
  | cons s r ih =>
    unfold bdsL at ih ⊢
    rw [List.flatMap_cons, sumK_app, ih, cntL_cons]
    unfold bdsS
    by_cases hv : validB s = true
    · have hk := valid_iff.1 hv
      rw [if_pos hv]
      simp only [sumK]
      have := h1 s hk
      by_cases hh : hasS s e x = true
      · rw [if_pos hh] at this
        rw [if_pos ⟨hk, hh⟩, Int.mul_add, Int.mul_one]
        omega
      · rw [if_neg hh] at this
        rw [if_neg (fun h => hh h.2), Int.mul_add, Int.mul_zero]
        omega
    · rw [if_neg hv, if_neg (fun h => hv (valid_iff.2 h.1))]
      simp [sumK]
theorem up_span {s : Sn3} (hs : okN s) (e x a b : Int) : upA e x ⟨s.edge, s.lo, a, b⟩ + upA e x ⟨s.edge, s.hi, -a, -b⟩ = (if hasS s e x = true then a else 0) ∧ upB e x ⟨s.edge, s.lo, a, b⟩ + upB e x ⟨s.edge, s.hi, -a, -b⟩ = (if hasS s e x = true then b else 0) := by
  obtain ⟨h1, h2, h3, h4⟩ := hs
  unfold upA upB
  have hh : hasS s e x = true ↔ s.edge = e ∧ s.lo ≤ x ∧ x < s.hi := by rw [hasS_iff]; omega
  by_cases h : hasS s e x = true
  · have := hh.1 h
    have c1 : upK e x ⟨s.edge, s.lo, a, b⟩ := by unfold upK; dsimp only; omega
    have c2 : ¬ upK e x ⟨s.edge, s.hi, -a, -b⟩ := by unfold upK; dsimp only; omega
    rw [if_pos c1, if_neg c2, if_pos h, if_pos c1, if_neg c2, if_pos h]
    dsimp only
    omega
  · have h5 := mt hh.2 h
    by_cases h6 : s.edge < e ∨ s.edge = e ∧ s.hi ≤ x
    · have c1 : upK e x ⟨s.edge, s.lo, a, b⟩ := by unfold upK; dsimp only; omega
      have c2 : upK e x ⟨s.edge, s.hi, -a, -b⟩ := h6
      rw [if_pos c1, if_pos c2, if_neg h, if_pos c1, if_pos c2, if_neg h]
      dsimp only
      omega
    · have c1 : ¬ upK e x ⟨s.edge, s.lo, a, b⟩ := by unfold upK; dsimp only; omega
      have c2 : ¬ upK e x ⟨s.edge, s.hi, -a, -b⟩ := h6
      rw [if_neg c1, if_neg c2, if_neg h, if_neg c1, if_neg c2, if_neg h]
      omega
def boundsAll (a b : List Sn3) : List Bd4 := bdsL 1 0 a ++ bdsL 0 1 b
theorem sumA_all (a b : List Sn3) (e x : Int) : sumK (upA e x) (boundsAll a b) = cntL a e x := by
  unfold boundsAll
  rw [sumK_app, sum_bds a e x 1 (fun s hs => (up_span hs e x 1 0).1), sum_bds b e x 0 (fun s hs => (up_span hs e x 0 1).1)]
  omega
theorem sumB_all (a b : List Sn3) (e x : Int) : sumK (upB e x) (boundsAll a b) = cntL b e x := by
  unfold boundsAll
  rw [sumK_app, sum_bds a e x 0 (fun s hs => (up_span hs e x 1 0).2), sum_bds b e x 1 (fun s hs => (up_span hs e x 0 1).2)]
  omega
theorem bds_mem {d : Bd4} {a b : Int} {l : List Sn3} (h : d ∈ bdsL a b l) : 0 ≤ d.edge ∧ 0 ≤ d.at_ ∧ d.at_ ≤ 1000000 ∧ (d.a = a ∨ d.a = -a) ∧ (d.b = b ∨ d.b = -b) := by
  unfold bdsL at h
  obtain ⟨s, _, h2⟩ := List.mem_flatMap.1 h
  unfold bdsS at h2
  split at h2
  · rename_i hv
    obtain ⟨k1, k2, k3, k4⟩ := valid_iff.1 hv
    simp only [List.mem_cons, List.not_mem_nil, or_false] at h2
    rcases h2 with rfl | rfl
    · exact ⟨k1, k2, by dsimp only; omega, .inl rfl, .inl rfl⟩
    · exact ⟨k1, by dsimp only; omega, k4, .inr rfl, .inr rfl⟩
  · cases h2
theorem all_mem {d : Bd4} {a b : List Sn3} (h : d ∈ boundsAll a b) : 0 ≤ d.edge ∧ 0 ≤ d.at_ ∧ d.at_ ≤ 1000000 ∧ (-1 ≤ d.a ∧ d.a ≤ 1) ∧ (-1 ≤ d.b ∧ d.b ≤ 1) := by
  rcases List.mem_append.1 h with h | h
  · have := bds_mem h; omega
  · have := bds_mem h; omega
theorem bds_end {l : List Sn3} {e x : Int} (a b : Int) (h : hasL l e x = true) : ∃ d ∈ bdsL a b l, d.edge = e ∧ x < d.at_ := by
  obtain ⟨s, h1, h2⟩ := hasL_iff.1 h
  have h3 := hasS_iff.1 h2
  refine ⟨⟨s.edge, s.hi, -a, -b⟩, List.mem_flatMap.2 ⟨s, h1, ?_⟩, h3.2.2.2.1, h3.2.2.2.2.2⟩
  unfold bdsS
  rw [if_pos (valid_iff.2 (has_ok h2))]
  simp
theorem all_end {a b : List Sn3} {e x : Int} (h : hasL a e x = true ∨ hasL b e x = true) : ∃ d ∈ boundsAll a b, d.edge = e ∧ x < d.at_ := by
  unfold boundsAll
  rcases h with h | h
  · obtain ⟨d, h1, h2⟩ := bds_end 1 0 h
    exact ⟨d, List.mem_append_left _ h1, h2⟩
  · obtain ⟨d, h1, h2⟩ := bds_end 0 1 h
    exact ⟨d, List.mem_append_right _ h1, h2⟩

/-! The sweep. -/
def stepC (pa oa ob : Int) (x : Bd4) : List Pc5 := if 0 < oa + ob ∧ pa < x.at_ then [⟨⟨x.edge, pa, x.at_⟩, decide (0 < oa), decide (0 < ob)⟩] else []
def sweepL (pa oa ob : Int) : List Bd4 → List Pc5
  | [] => []
  | x :: r => stepC pa oa ob x ++ sweepL x.at_ (oa + x.a) (ob + x.b) r
structure Swp (cA cB : Int → Int → Int) (pe pa oa ob : Int) (Q : List Bd4) : Prop where
  sorted : Q.Pairwise fun x y => befB y x = false
  ge : ∀ d ∈ Q, pe < d.edge ∨ (pe = d.edge ∧ pa ≤ d.at_)
  num : ∀ d ∈ Q, 0 ≤ d.edge ∧ 0 ≤ d.at_ ∧ d.at_ ≤ 1000000
  sA : ∀ e x, pe < e ∨ (pe = e ∧ pa ≤ x) → oa + sumK (upA e x) Q = cA e x
  sB : ∀ e x, pe < e ∨ (pe = e ∧ pa ≤ x) → ob + sumK (upB e x) Q = cB e x
  fin : ∀ e x, pe < e ∨ (pe = e ∧ pa ≤ x) → 0 < cA e x + cB e x → ∃ d ∈ Q, d.edge = e ∧ x < d.at_
theorem Swp.tail {cA cB : Int → Int → Int} {pe pa oa ob : Int} {d : Bd4} {r : List Bd4} (h : Swp cA cB pe pa oa ob (d :: r)) : Swp cA cB d.edge d.at_ (oa + d.a) (ob + d.b) r where
  sorted := (List.pairwise_cons.1 h.sorted).2
  ge := fun y hy => by
    have h1 := (List.pairwise_cons.1 h.sorted).1 y hy
    have h2 : ¬ (y.edge < d.edge ∨ (y.edge = d.edge ∧ y.at_ < d.at_)) := fun h2 => by rw [befB_iff.2 h2] at h1; cases h1
    omega
  num := fun y hy => h.num y (List.mem_cons_of_mem _ hy)
  sA := fun e x hx => by
    have h1 := h.ge d (List.mem_cons_self ..)
    have h2 := h.sA e x (by omega)
    rw [sumK] at h2
    have h3 : upA e x d = d.a := if_pos (by unfold upK; omega)
    rw [h3] at h2
    omega
  sB := fun e x hx => by
    have h1 := h.ge d (List.mem_cons_self ..)
    have h2 := h.sB e x (by omega)
    rw [sumK] at h2
    have h3 : upB e x d = d.b := if_pos (by unfold upK; omega)
    rw [h3] at h2
    omega
  fin := fun e x hx hc => by
    have h1 := h.ge d (List.mem_cons_self ..)
    obtain ⟨y, hy, h2, h3⟩ := h.fin e x (by omega) hc
    rcases List.mem_cons.1 hy with rfl | hy
    · omega
    · exact ⟨y, hy, h2, h3⟩
/-- Ahead of the next bound nothing changes. -/
theorem Swp.still {cA cB : Int → Int → Int} {pe pa oa ob : Int} {d : Bd4} {r : List Bd4} (h : Swp cA cB pe pa oa ob (d :: r)) {e x : Int} (h1 : pe < e ∨ (pe = e ∧ pa ≤ x)) (h2 : e < d.edge ∨ (e = d.edge ∧ x < d.at_)) : oa = cA e x ∧ ob = cB e x := by
  have hz : ∀ y ∈ d :: r, ¬ upK e x y := fun y hy => by
    unfold upK
    rcases List.mem_cons.1 hy with rfl | hy
    · omega
    · have := h.tail.ge y hy
      omega
  have hA := h.sA e x h1
  have hB := h.sB e x h1
  rw [sumK_zero (f := upA e x) fun y hy => if_neg (hz y hy)] at hA
  rw [sumK_zero (f := upB e x) fun y hy => if_neg (hz y hy)] at hB
  omega
theorem Swp.edge {cA cB : Int → Int → Int} {pe pa oa ob : Int} {d : Bd4} {r : List Bd4} (h : Swp cA cB pe pa oa ob (d :: r)) (ho : 0 < oa + ob) : pe = d.edge := by
  have h1 := h.ge d (List.mem_cons_self ..)
  refine Classical.byContradiction fun hne => ?_
  obtain ⟨h2, h3⟩ := h.still (e := pe) (x := pa) (.inr ⟨rfl, Int.le_refl _⟩) (.inl (by omega))
  obtain ⟨y, hy, h4, h5⟩ := h.fin pe pa (.inr ⟨rfl, Int.le_refl _⟩) (by omega)
  rcases List.mem_cons.1 hy with rfl | hy
  · omega
  · have := h.tail.ge y hy
    omega
structure Pcs (cA cB : Int → Int → Int) (out : List Pc5) : Prop where
  ok : ∀ p ∈ out, okN p.s ∧ (p.inA || p.inB) = true ∧ ∀ x, p.s.lo ≤ x → x < p.s.hi → p.inA = decide (0 < cA p.s.edge x) ∧ p.inB = decide (0 < cB p.s.edge x)
  pair : out.Pairwise fun p q => p.s.edge < q.s.edge ∨ (p.s.edge = q.s.edge ∧ p.s.hi ≤ q.s.lo)
theorem step_mem {pa oa ob : Int} {d : Bd4} {p : Pc5} (h : p ∈ stepC pa oa ob d) : 0 < oa + ob ∧ pa < d.at_ ∧ p = ⟨⟨d.edge, pa, d.at_⟩, decide (0 < oa), decide (0 < ob)⟩ := by
  unfold stepC at h
  split at h
  · rename_i h1
    simp at h
    exact ⟨h1.1, h1.2, h⟩
  · cases h
theorem sweep_ok {cA cB : Int → Int → Int} {pe pa oa ob : Int} {Q : List Bd4} (h : Swp cA cB pe pa oa ob Q) (hpa : 0 ≤ pa) :
    Pcs cA cB (sweepL pa oa ob Q) ∧ (∀ p ∈ sweepL pa oa ob Q, pe < p.s.edge ∨ (pe = p.s.edge ∧ pa ≤ p.s.lo)) ∧
    ∀ e x, pe < e ∨ (pe = e ∧ pa ≤ x) → 0 < cA e x + cB e x → ∃ p ∈ sweepL pa oa ob Q, p.s.edge = e ∧ p.s.lo ≤ x ∧ x < p.s.hi := by
  induction Q generalizing pe pa oa ob with
  | nil =>
    refine ⟨⟨fun p hp => (by cases hp), .nil⟩, fun p hp => (by cases hp), fun e x h1 h2 => ?_⟩
    obtain ⟨d, hd, _⟩ := h.fin e x h1 h2
    cases hd
  | cons d r ih =>
    have hd := h.num d (List.mem_cons_self ..)
    have hge := h.ge d (List.mem_cons_self ..)
    obtain ⟨⟨i1, i2⟩, i3, i4⟩ := ih h.tail hd.2.1
    unfold sweepL
    refine ⟨⟨fun p hp => ?_, ?_⟩, fun p hp => ?_, fun e x h1 h2 => ?_⟩
    · rcases List.mem_append.1 hp with hp | hp
      · obtain ⟨k1, k2, rfl⟩ := step_mem hp
        have k3 := h.edge k1
        refine ⟨⟨hd.1, hpa, k2, hd.2.2⟩, ?_, fun x hx1 hx2 => ?_⟩
        · show (decide (0 < oa) || decide (0 < ob)) = true
          rw [Bool.or_eq_true, decide_eq_true_eq, decide_eq_true_eq]
          omega
        · obtain ⟨k4, k5⟩ := h.still (e := d.edge) (x := x) (.inr ⟨k3, hx1⟩) (.inr ⟨rfl, hx2⟩)
          subst k4 k5
          exact ⟨rfl, rfl⟩
      · exact i1 p hp
    · rw [List.pairwise_append]
      refine ⟨?_, i2, fun p hp q hq => ?_⟩
      · unfold stepC
        split
        · exact List.pairwise_singleton _ _
        · exact .nil
      · obtain ⟨k1, k2, rfl⟩ := step_mem hp
        exact i3 q hq
    · rcases List.mem_append.1 hp with hp | hp
      · obtain ⟨k1, k2, rfl⟩ := step_mem hp
        exact .inr ⟨h.edge k1, Int.le_refl _⟩
      · have := i3 p hp
        omega
    · by_cases h3 : d.edge < e ∨ (d.edge = e ∧ d.at_ ≤ x)
      · obtain ⟨p, hp, k⟩ := i4 e x h3 h2
        exact ⟨p, List.mem_append_right _ hp, k⟩
      · obtain ⟨k1, k2⟩ := h.still (e := e) (x := x) h1 (by omega)
        obtain ⟨y, hy, k3, k4⟩ := h.fin e x h1 h2
        have k5 := h.edge (by omega)
        have k6 : e = d.edge := by
          rcases List.mem_cons.1 hy with rfl | hy
          · exact k3.symm
          · have := h.tail.ge y hy
            omega
        refine ⟨⟨⟨d.edge, pa, d.at_⟩, decide (0 < oa), decide (0 < ob)⟩, List.mem_append_left _ ?_, k6.symm, by dsimp only; omega, by dsimp only; omega⟩
        unfold stepC
        rw [if_pos (by omega)]
        simp
def piecesL (L : List Bd4) : List Pc5 := sweepL 0 0 0 L
/-- The pieces of two lists, whichever way their bounds are sorted. -/
theorem pieces_ok {a b : List Sn3} {L : List Bd4} (hp : L.Perm (boundsAll a b)) (hs : L.Pairwise fun x y => befB y x = false) :
    Pcs (cntL a) (cntL b) (piecesL L) ∧ ∀ e x, (hasL a e x = true ∨ hasL b e x = true) → ∃ p ∈ piecesL L, p.s.edge = e ∧ p.s.lo ≤ x ∧ x < p.s.hi := by
  have hm : ∀ {d : Bd4}, d ∈ L → d ∈ boundsAll a b := fun h => hp.mem_iff.1 h
  have hc : ∀ e x, 0 < cntL a e x + cntL b e x ↔ (hasL a e x = true ∨ hasL b e x = true) := fun e x => by
    rw [← cnt_pos, ← cnt_pos]
    have := cnt_ge a e x
    have := cnt_ge b e x
    omega
  have H : Swp (cntL a) (cntL b) (-1) 0 0 0 L := {
    sorted := hs
    ge := fun d hd => .inl (by have := all_mem (hm hd); omega)
    num := fun d hd => by have := all_mem (hm hd); omega
    sA := fun e x _ => by rw [sumK_perm hp, sumA_all]; omega
    sB := fun e x _ => by rw [sumK_perm hp, sumB_all]; omega
    fin := fun e x _ h => by
      obtain ⟨d, h1, h2⟩ := all_end ((hc e x).1 h)
      exact ⟨d, hp.mem_iff.2 h1, h2⟩ }
  obtain ⟨h1, _, h3⟩ := sweep_ok H (Int.le_refl _)
  refine ⟨h1, fun e x h => h3 e x (.inl ?_) ((hc e x).2 h)⟩
  obtain ⟨d, hd, h4, _⟩ := all_end h
  have := all_mem hd
  omega
theorem pieces_has {a b : List Sn3} {L : List Bd4} (hp : L.Perm (boundsAll a b)) (hs : L.Pairwise fun x y => befB y x = false) {p : Pc5} (h : p ∈ piecesL L) {x : Int} (h1 : p.s.lo ≤ x) (h2 : x < p.s.hi) : p.inA = hasL a p.s.edge x ∧ p.inB = hasL b p.s.edge x := by
  have := ((pieces_ok hp hs).1.ok p h).2.2 x h1 h2
  rw [cnt_dec, cnt_dec] at this
  exact this
theorem sweep_len (pa oa ob : Int) (L : List Bd4) : (sweepL pa oa ob L).length ≤ L.length := by
  induction L generalizing pa oa ob with
  | nil => exact Nat.le_refl _
  | cons d r ih =>
    unfold sweepL
    rw [List.length_append, List.length_cons]
    have := ih d.at_ (oa + d.a) (ob + d.b)
    have : (stepC pa oa ob d).length ≤ 1 := by unfold stepC; split <;> simp
    omega

/-! What is kept, glued. -/
def joinL (l : List Sn3) (s : Sn3) : List Sn3 :=
  match l.getLast? with
  | none => [s]
  | some t => if t.edge = s.edge ∧ t.hi = s.lo then l.dropLast ++ [⟨t.edge, t.lo, s.hi⟩] else l ++ [s]
theorem joinL_nil (s : Sn3) : joinL [] s = [s] := rfl
theorem joinL_snoc (l : List Sn3) (t s : Sn3) : joinL (l ++ [t]) s = if t.edge = s.edge ∧ t.hi = s.lo then l ++ [⟨t.edge, t.lo, s.hi⟩] else l ++ [t] ++ [s] := by
  unfold joinL
  rw [List.getLast?_concat, List.dropLast_concat]
def foldJ (k : Bool → Bool → Bool) : List Sn3 → List Pc5 → List Sn3
  | out, [] => out
  | out, p :: r => foldJ k (if k p.inA p.inB = true then joinL out p.s else out) r
theorem foldJ_snoc (k : Bool → Bool → Bool) (out : List Sn3) (l : List Pc5) (p : Pc5) : foldJ k out (l ++ [p]) = if k p.inA p.inB = true then joinL (foldJ k out l) p.s else foldJ k out l := by
  induction l generalizing out with
  | nil => rfl
  | cons q r ih => rw [List.cons_append, foldJ, ih, foldJ]
theorem snoc_or_nil (l : List Sn3) : l = [] ∨ ∃ m t, l = m ++ [t] := by
  cases h : l.getLast? with
  | none => exact .inl (List.getLast?_eq_none_iff.1 h)
  | some t => exact .inr (by obtain ⟨m, hm⟩ := List.getLast?_eq_some_iff.1 h; exact ⟨m, t, hm⟩)
theorem join_len (l : List Sn3) (s : Sn3) : (joinL l s).length ≤ l.length + 1 := by
  rcases snoc_or_nil l with rfl | ⟨m, t, rfl⟩
  · simp [joinL_nil]
  · rw [joinL_snoc]
    split <;> simp
theorem foldJ_len (k : Bool → Bool → Bool) (out : List Sn3) (l : List Pc5) : (foldJ k out l).length ≤ out.length + l.length := by
  induction l generalizing out with
  | nil => exact Nat.le_refl _
  | cons p r ih =>
    unfold foldJ
    have h2 := join_len out p.s
    rw [List.length_cons]
    by_cases h3 : k p.inA p.inB = true
    · rw [if_pos h3]
      have := ih (joinL out p.s)
      omega
    · rw [if_neg h3]
      have := ih out
      omega
/-- What stands is normal, and ends ahead of s. -/
def endsB (l : List Sn3) (s : Sn3) : Prop := ∀ t ∈ l, t.edge < s.edge ∨ (t.edge = s.edge ∧ t.hi ≤ s.lo)
theorem join_norm {l : List Sn3} {s : Sn3} (hl : normP l) (hs : okN s) (he : endsB l s) : normP (joinL l s) ∧ (∀ e x, hasL (joinL l s) e x = (hasL l e x || hasS s e x)) ∧ ∀ u : Sn3, endsB l u → (s.edge < u.edge ∨ (s.edge = u.edge ∧ s.hi ≤ u.lo)) → endsB (joinL l s) u := by
  rcases snoc_or_nil l with rfl | ⟨m, t, rfl⟩
  · rw [joinL_nil]
    refine ⟨⟨fun u hu => by simp at hu; subst hu; exact hs, List.pairwise_singleton _ _⟩, fun e x => by simp [hasL], fun u _ hu v hv => by simp at hv; subst hv; exact hu⟩
  · rw [joinL_snoc]
    have ht := hl.1 t (by simp)
    have het := he t (by simp)
    have hpw := hl.2
    rw [List.pairwise_append] at hpw
    by_cases hc : t.edge = s.edge ∧ t.hi = s.lo
    · rw [if_pos hc]
      obtain ⟨t1, t2, t3, t4⟩ := ht
      obtain ⟨s1, s2, s3, s4⟩ := hs
      refine ⟨⟨fun u hu => ?_, ?_⟩, fun e x => ?_, fun u hu hsu v hv => ?_⟩
      · rcases List.mem_append.1 hu with hu | hu
        · exact hl.1 u (List.mem_append_left _ hu)
        · simp at hu
          subst hu
          exact ⟨t1, t2, by dsimp only; omega, s4⟩
      · rw [List.pairwise_append]
        refine ⟨hpw.1, List.pairwise_singleton _ _, fun u hu v hv => ?_⟩
        simp at hv
        subst hv
        exact hpw.2.2 u hu t (by simp)
      · rw [hasL_app, hasL_app, Bool.or_assoc]
        congr 1
        rw [Bool.eq_iff_iff, Bool.or_eq_true]
        simp only [hasL, List.any_cons, List.any_nil, Bool.or_false]
        rw [hasS_iff, hasS_iff, hasS_iff]
        dsimp only
        omega
      · rcases List.mem_append.1 hv with hv | hv
        · exact hu v (List.mem_append_left _ hv)
        · simp at hv
          subst hv
          dsimp only
          omega
    · rw [if_neg hc]
      refine ⟨⟨fun u hu => ?_, ?_⟩, fun e x => ?_, fun u hu hsu v hv => ?_⟩
      · rcases List.mem_append.1 hu with hu | hu
        · exact hl.1 u hu
        · simp at hu
          subst hu
          exact hs
      · rw [List.pairwise_append]
        refine ⟨hl.2, List.pairwise_singleton _ _, fun u hu v hv => ?_⟩
        simp only [List.mem_singleton] at hv
        subst hv
        unfold aheadN
        rcases List.mem_append.1 hu with hu | hu
        · have h1 := hpw.2.2 u hu t (by simp)
          unfold aheadN at h1
          have := ht.2.2.1
          omega
        · simp at hu
          subst hu
          omega
      · rw [hasL_app]
        simp [hasL]
      · rcases List.mem_append.1 hv with hv | hv
        · exact hu v hv
        · simp at hv
          subst hv
          exact hsu
theorem foldJ_norm {k : Bool → Bool → Bool} {l : List Pc5} {out : List Sn3} (ho : normP out) (hl : ∀ p ∈ l, okN p.s) (hp : l.Pairwise fun p q => p.s.edge < q.s.edge ∨ (p.s.edge = q.s.edge ∧ p.s.hi ≤ q.s.lo)) (he : ∀ p ∈ l, endsB out p.s) :
    normP (foldJ k out l) ∧ ∀ e x, hasL (foldJ k out l) e x = (hasL out e x || l.any fun p => k p.inA p.inB && hasS p.s e x) := by
  induction l generalizing out with
  | nil => exact ⟨ho, fun e x => by simp [foldJ]⟩
  | cons p r ih =>
    unfold foldJ
    rw [List.pairwise_cons] at hp
    have hpk := hl p (List.mem_cons_self ..)
    by_cases hk : k p.inA p.inB = true
    · rw [if_pos hk]
      obtain ⟨j1, j2, j3⟩ := join_norm ho hpk (he p (List.mem_cons_self ..))
      obtain ⟨i1, i2⟩ := ih j1 (fun q hq => hl q (List.mem_cons_of_mem _ hq)) hp.2 (fun q hq => j3 q.s (he q (List.mem_cons_of_mem _ hq)) (hp.1 q hq))
      refine ⟨i1, fun e x => ?_⟩
      rw [i2, j2, List.any_cons, hk, Bool.true_and, Bool.or_assoc]
    · rw [if_neg hk]
      obtain ⟨i1, i2⟩ := ih ho (fun q hq => hl q (List.mem_cons_of_mem _ hq)) hp.2 (fun q hq => he q (List.mem_cons_of_mem _ hq))
      refine ⟨i1, fun e x => ?_⟩
      have hk2 : k p.inA p.inB = false := by simpa using hk
      rw [i2, List.any_cons, hk2]
      simp
/-- What is collected is the form. -/
theorem collect_form {a b : List Sn3} {L : List Bd4} (hp : L.Perm (boundsAll a b)) (hs : L.Pairwise fun x y => befB y x = false) (k : Bool → Bool → Bool) (K : Kp3) (hk : ∀ x y, (x || y) = true → k x y = wantB K x y) : foldJ k [] (piecesL L) = formL a b K := by
  obtain ⟨⟨h1, h2⟩, h3⟩ := pieces_ok hp hs
  obtain ⟨i1, i2⟩ := foldJ_norm (k := k) (l := piecesL L) nil_normal (fun p hp => (h1 p hp).1) h2 (fun p _ t ht => by cases ht)
  refine form_uniq i1 fun e x => ?_
  rw [i2, Bool.eq_iff_iff]
  simp only [hasL, List.any_nil, Bool.false_or]
  rw [List.any_eq_true]
  constructor
  · rintro ⟨p, hpm, hq⟩
    rw [Bool.and_eq_true] at hq
    have hx := hasS_iff.1 hq.2
    obtain ⟨k1, k2⟩ := pieces_has hp hs hpm hx.2.2.2.2.1 hx.2.2.2.2.2
    rw [hx.2.2.2.1] at k1 k2
    have := hk _ _ (h1 p hpm).2.1
    rw [hq.1, k1, k2] at this
    exact this.symm
  · intro h
    have hor : hasL a e x = true ∨ hasL b e x = true := by
      cases h4 : hasL a e x with
      | true => exact .inl rfl
      | false =>
        cases h5 : hasL b e x with
        | true => exact .inr rfl
        | false =>
          unfold hasL at h4 h5
          rw [h4, h5, want_none] at h
          cases h
    obtain ⟨p, hpm, e1, e2, e3⟩ := h3 e x hor
    obtain ⟨k1, k2⟩ := pieces_has hp hs hpm e2 e3
    rw [e1] at k1 k2
    refine ⟨p, hpm, ?_⟩
    rw [Bool.and_eq_true]
    have hok := (h1 p hpm).1
    refine ⟨?_, hasS_iff.2 ⟨hok.1, hok.2.1, hok.2.2.2, e1, e2, e3⟩⟩
    rw [hk _ _ (h1 p hpm).2.1, k1, k2]
    exact h
/-- Their lengths. -/
theorem pieces_total {a : List Sn3} {L : List Bd4} (hp : L.Perm (boundsAll a [])) (hs : L.Pairwise fun x y => befB y x = false) : sumN ((piecesL L).map (·.s)) = totalL a := by
  obtain ⟨⟨h1, h2⟩, h3⟩ := pieces_ok hp hs
  refine sum_same ⟨?_, ?_⟩ (norm_dj (norm_normal a)) fun e x => ?_
  · intro s hs2
    obtain ⟨p, hpm, rfl⟩ := List.mem_map.1 hs2
    exact (h1 p hpm).1
  · rw [List.pairwise_map]
    refine h2.imp fun {p q} hpq e x hh => ?_
    have k1 := hasS_iff.1 hh.1
    have k2 := hasS_iff.1 hh.2
    omega
  · rw [norm_has, Bool.eq_iff_iff, hasL_iff]
    constructor
    · rintro ⟨s, hs2, hh⟩
      obtain ⟨p, hpm, rfl⟩ := List.mem_map.1 hs2
      have hx := hasS_iff.1 hh
      obtain ⟨k1, k2⟩ := pieces_has hp hs hpm hx.2.2.2.2.1 hx.2.2.2.2.2
      have := (h1 p hpm).2.1
      rw [k1, k2, hx.2.2.2.1] at this
      simpa [hasL] using this
    · intro h
      obtain ⟨p, hpm, e1, e2, e3⟩ := h3 e x (.inl h)
      have hok := (h1 p hpm).1
      exact ⟨p.s, List.mem_map.2 ⟨p, hpm, rfl⟩, hasS_iff.2 ⟨hok.1, hok.2.1, hok.2.2.2, e1, e2, e3⟩⟩
end Go.Proofs.Yteioefgckigbcaa
