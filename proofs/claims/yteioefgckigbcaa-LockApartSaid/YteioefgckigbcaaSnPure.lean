/-
  span, pure: lists of spans as plain records; the normal form, that there is but one; how many decimetres.
-/
import Derived.Test.YteioefgckigbcaaTpPure

namespace Go.Proofs.Yteioefgckigbcaa

structure Sn3 where
  edge : Int
  lo : Int
  hi : Int
def hasS (s : Sn3) (e x : Int) : Bool := decide (0 ≤ s.edge) && (decide (0 ≤ s.lo) && (decide (s.hi ≤ 1000000) && (decide (s.edge = e) && (decide (s.lo ≤ x) && decide (x < s.hi)))))
theorem hasS_iff {s : Sn3} {e x : Int} : hasS s e x = true ↔ 0 ≤ s.edge ∧ 0 ≤ s.lo ∧ s.hi ≤ 1000000 ∧ s.edge = e ∧ s.lo ≤ x ∧ x < s.hi := by
  unfold hasS
  simp only [Bool.and_eq_true, decide_eq_true_eq]
def hasL (l : List Sn3) (e x : Int) : Bool := l.any fun s => hasS s e x
theorem hasL_iff {l : List Sn3} {e x : Int} : hasL l e x = true ↔ ∃ s ∈ l, hasS s e x = true := List.any_eq_true
theorem hasL_false {l : List Sn3} {e x : Int} (h : hasL l e x = false) {s : Sn3} (hs : s ∈ l) : hasS s e x = false := by
  cases hq : hasS s e x with
  | false => rfl
  | true => rw [hasL_iff.2 ⟨s, hs, hq⟩] at h; cases h
theorem hasL_app (a b : List Sn3) (e x : Int) : hasL (a ++ b) e x = (hasL a e x || hasL b e x) := List.any_append
def eqN (a b : Sn3) : Bool := (a.edge == b.edge) && ((a.lo == b.lo) && (a.hi == b.hi))
theorem eqN_iff (a b : Sn3) : eqN a b = true ↔ a = b := by
  obtain ⟨x, y, z⟩ := a
  obtain ⟨u, v, w⟩ := b
  unfold eqN
  simp
def sameN : List Sn3 → List Sn3 → Bool
  | [], [] => true
  | x :: r, y :: q => eqN x y && sameN r q
  | _, _ => false
theorem sameN_iff (a b : List Sn3) : sameN a b = true ↔ a = b := by
  induction a generalizing b with
  | nil => cases b <;> simp [sameN]
  | cons x r ih =>
    cases b with
    | nil => simp [sameN]
    | cons y q => simp only [sameN, Bool.and_eq_true, eqN_iff, ih, List.cons.injEq]
structure Kp3 where
  one : Bool
  other : Bool
  common : Bool
def wantB (k : Kp3) (x y : Bool) : Bool := ((k.one && x) && !y) || (((k.other && y) && !x) || ((k.common && x) && y))
theorem want_none (k : Kp3) : wantB k false false = false := by
  obtain ⟨a, b, c⟩ := k
  cases a <;> cases b <;> cases c <;> rfl

/-! Numbers that rise, with one more. -/
def insL (n : Int) : List Int → List Int
  | [] => [n]
  | x :: r => if x = n then x :: r else if n < x then n :: x :: r else x :: insL n r
theorem ins_mem {n y : Int} {l : List Int} : y ∈ insL n l ↔ y = n ∨ y ∈ l := by
  induction l with
  | nil => simp [insL]
  | cons x r ih =>
    unfold insL
    split
    · rename_i h; subst h; simp
    · split
      · simp
      · rw [List.mem_cons, ih, List.mem_cons]
        constructor
        · rintro (h | h | h)
          · exact .inr (.inl h)
          · exact .inl h
          · exact .inr (.inr h)
        · rintro (h | h | h)
          · exact .inr (.inl h)
          · exact .inl h
          · exact .inr (.inr h)
theorem ins_sorted {n : Int} {l : List Int} (h : l.Pairwise (· < ·)) : (insL n l).Pairwise (· < ·) := by
  induction l with
  | nil => simp [insL]
  | cons x r ih =>
    rw [List.pairwise_cons] at h
    unfold insL
    split
    · rw [List.pairwise_cons]; exact h
    · rename_i hne
      split
      · rename_i hlt
        rw [List.pairwise_cons, List.pairwise_cons]
        refine ⟨fun y hy => ?_, h⟩
        rcases List.mem_cons.1 hy with rfl | hy
        · exact hlt
        · exact Int.lt_trans hlt (h.1 y hy)
      · rename_i hge
        rw [List.pairwise_cons]
        refine ⟨fun y hy => ?_, ih h.2⟩
        rcases ins_mem.1 hy with rfl | hy
        · omega
        · exact h.1 y hy
theorem ins_len (n : Int) (l : List Int) : (insL n l).length ≤ l.length + 1 := by
  induction l with
  | nil => simp [insL]
  | cons x r ih =>
    unfold insL
    split
    · simp
    · split
      · simp
      · simp only [List.length_cons]; omega
def edgesF (q : List Int) (l : List Sn3) : List Int := l.foldl (fun q s => insL s.edge q) q
def endsF (q : List Int) (l : List Sn3) : List Int := l.foldl (fun q s => insL s.hi (insL s.lo q)) q
theorem edges_cons (q : List Int) (s : Sn3) (l : List Sn3) : edgesF q (s :: l) = edgesF (insL s.edge q) l := rfl
theorem ends_cons (q : List Int) (s : Sn3) (l : List Sn3) : endsF q (s :: l) = endsF (insL s.hi (insL s.lo q)) l := rfl
theorem edges_sorted {q : List Int} (h : q.Pairwise (· < ·)) (l : List Sn3) : (edgesF q l).Pairwise (· < ·) := by
  induction l generalizing q with
  | nil => exact h
  | cons s r ih => rw [edges_cons]; exact ih (ins_sorted h)
theorem ends_sorted {q : List Int} (h : q.Pairwise (· < ·)) (l : List Sn3) : (endsF q l).Pairwise (· < ·) := by
  induction l generalizing q with
  | nil => exact h
  | cons s r ih => rw [ends_cons]; exact ih (ins_sorted (ins_sorted h))
theorem edges_mem {q : List Int} {l : List Sn3} {y : Int} : y ∈ edgesF q l ↔ y ∈ q ∨ ∃ s ∈ l, y = s.edge := by
  induction l generalizing q with
  | nil => simp [edgesF]
  | cons s r ih =>
    rw [edges_cons, ih, ins_mem]
    simp only [List.mem_cons, exists_eq_or_imp]
    constructor
    · rintro ((h | h) | h)
      · exact .inr (.inl h)
      · exact .inl h
      · exact .inr (.inr h)
    · rintro (h | h | h)
      · exact .inl (.inr h)
      · exact .inl (.inl h)
      · exact .inr h
theorem ends_mem {q : List Int} {l : List Sn3} {y : Int} : y ∈ endsF q l ↔ y ∈ q ∨ ∃ s ∈ l, y = s.lo ∨ y = s.hi := by
  induction l generalizing q with
  | nil => simp [endsF]
  | cons s r ih =>
    rw [ends_cons, ih, ins_mem, ins_mem]
    simp only [List.mem_cons, exists_eq_or_imp]
    constructor
    · rintro ((h | h | h) | h)
      · exact .inr (.inl (.inr h))
      · exact .inr (.inl (.inl h))
      · exact .inl h
      · exact .inr (.inr h)
    · rintro (h | (h | h) | h)
      · exact .inl (.inr (.inr h))
      · exact .inl (.inr (.inl h))
      · exact .inl (.inl h)
      · exact .inr h
theorem edges_len (q : List Int) (l : List Sn3) : (edgesF q l).length ≤ q.length + l.length := by
  induction l generalizing q with
  | nil => exact Nat.le_refl _
  | cons s r ih =>
    rw [edges_cons, List.length_cons]
    have h1 := ih (insL s.edge q)
    have h2 := ins_len s.edge q
    omega
theorem ends_len (q : List Int) (l : List Sn3) : (endsF q l).length ≤ q.length + 2 * l.length := by
  induction l generalizing q with
  | nil => exact Nat.le_refl _
  | cons s r ih =>
    rw [ends_cons, List.length_cons]
    have h1 := ih (insL s.hi (insL s.lo q))
    have h2 := ins_len s.lo q
    have h3 := ins_len s.hi (insL s.lo q)
    omega

/-! Of the pieces between neighbours, those that are asked for, glued where they touch. -/
def glue (e x y : Int) : List Sn3 → List Sn3
  | [] => [⟨e, x, y⟩]
  | s :: q => if s.lo = y then ⟨e, x, s.hi⟩ :: q else ⟨e, x, y⟩ :: s :: q
theorem glue_cons (e x y : Int) (s : Sn3) (q : List Sn3) : glue e x y (s :: q) = if s.lo = y then ⟨e, x, s.hi⟩ :: q else ⟨e, x, y⟩ :: s :: q := rfl
def segs (e : Int) (f : Int → Bool) : List Int → List Sn3
  | [] => []
  | [_] => []
  | x :: y :: r => if f x = true then glue e x y (segs e f (y :: r)) else segs e f (y :: r)
/-- The last one's Hi. -/
def setHi (l : List Sn3) (y : Int) : List Sn3 :=
  match l.getLast? with
  | none => []
  | some s => l.dropLast ++ [⟨s.edge, s.lo, y⟩]
theorem setHi_snoc (l : List Sn3) (s : Sn3) (y : Int) : setHi (l ++ [s]) y = l ++ [⟨s.edge, s.lo, y⟩] := by
  unfold setHi
  rw [List.getLast?_concat, List.dropLast_concat]
def fin15 (e : Int) (f : Int → Bool) : List Sn3 → Bool → List Int → List Sn3
  | out, _, [] => out
  | out, _, [_] => out
  | out, o, x :: y :: r => if f x = true then (if o = true then fin15 e f (setHi out y) true (y :: r) else fin15 e f (out ++ [⟨e, x, y⟩]) true (y :: r)) else fin15 e f out false (y :: r)
theorem segs_lo {e : Int} {f : Int → Bool} {x : Int} {l : List Int} (h : (x :: l).Pairwise (· < ·)) : ∀ s ∈ segs e f (x :: l), x ≤ s.lo ∧ s.lo < s.hi ∧ s.edge = e := by
  induction l generalizing x with
  | nil => intro s hs; cases hs
  | cons y r ih =>
    rw [List.pairwise_cons] at h
    have hxy : x < y := h.1 y (List.mem_cons_self ..)
    have ih' := ih h.2
    intro s hs
    unfold segs at hs
    split at hs
    · cases hq : segs e f (y :: r) with
      | nil =>
        rw [hq] at hs
        simp only [glue, List.mem_singleton] at hs
        subst hs
        exact ⟨Int.le_refl _, hxy, rfl⟩
      | cons u q =>
        rw [hq] at hs ih'
        rw [glue_cons] at hs
        split at hs
        · rename_i hu
          rcases List.mem_cons.1 hs with rfl | hs
          · have h1 := ih' u (List.mem_cons_self ..)
            exact ⟨Int.le_refl _, show x < u.hi by omega, rfl⟩
          · have h1 := ih' s (List.mem_cons_of_mem _ hs)
            exact ⟨by omega, h1.2⟩
        · rcases List.mem_cons.1 hs with rfl | hs
          · exact ⟨Int.le_refl _, hxy, rfl⟩
          · have h1 := ih' s hs
            exact ⟨by omega, h1.2⟩
    · have h1 := ih' s hs
      exact ⟨by omega, h1.2⟩
theorem fin_segs {e : Int} {f : Int → Bool} {l : List Int} (h : l.Pairwise (· < ·)) (out : List Sn3) :
    fin15 e f out false l = out ++ segs e f l ∧ ∀ x0 x r, l = x :: r → fin15 e f (out ++ [⟨e, x0, x⟩]) true l = out ++ glue e x0 x (segs e f l) := by
  induction l generalizing out with
  | nil => exact ⟨by simp [fin15, segs], fun _ _ _ h => by cases h⟩
  | cons x t ih =>
    cases t with
    | nil =>
      refine ⟨by simp [fin15, segs], fun x0 x' r e0 => ?_⟩
      injection e0 with e1 e2
      subst e1
      simp [fin15, segs, glue]
    | cons y r =>
      have hp := h
      rw [List.pairwise_cons] at h
      have hxy : x < y := h.1 y (List.mem_cons_self ..)
      refine ⟨?_, fun x0 x' r' e0 => ?_⟩
      · unfold fin15 segs
        by_cases hf : f x = true
        · rw [if_pos hf, if_pos hf, if_neg (by decide)]
          exact (ih h.2 out).2 x y r rfl
        · rw [if_neg hf, if_neg hf]
          exact (ih h.2 out).1
      · injection e0 with e1 e2
        subst e1
        unfold fin15 segs
        by_cases hf : f x = true
        · rw [if_pos hf, if_pos hf, if_pos rfl, setHi_snoc, (ih h.2 out).2 x0 y r rfl]
          congr 1
          cases segs e f (y :: r) with
          | nil => simp [glue]
          | cons u q =>
            rw [glue_cons, glue_cons]
            by_cases hu : u.lo = y
            · rw [if_pos hu, if_pos hu, glue_cons, if_pos rfl]
            · rw [if_neg hu, if_neg hu, glue_cons, if_pos rfl]
        · rw [if_neg hf, if_neg hf, (ih h.2 _).1, List.append_assoc]
          congr 1
          have hl := segs_lo (e := e) (f := f) h.2
          cases hq : segs e f (y :: r) with
          | nil => rfl
          | cons u q =>
            rw [hq] at hl
            have := (hl u (List.mem_cons_self ..)).1
            rw [glue_cons, if_neg (by omega)]
            rfl
theorem segs_pair {e : Int} {f : Int → Bool} {l : List Int} (h : l.Pairwise (· < ·)) : (segs e f l).Pairwise fun s t => s.hi < t.lo := by
  induction l with
  | nil => exact .nil
  | cons x t ih =>
    cases t with
    | nil => exact .nil
    | cons y r =>
      rw [List.pairwise_cons] at h
      have ih' := ih h.2
      unfold segs
      split
      · have hl := segs_lo (e := e) (f := f) h.2
        cases hq : segs e f (y :: r) with
        | nil => simp [glue]
        | cons u q =>
          rw [hq] at ih' hl
          rw [glue_cons]
          have ih2 := ih'
          rw [List.pairwise_cons] at ih'
          split
          · rw [List.pairwise_cons]
            exact ⟨fun t ht => ih'.1 t ht, ih'.2⟩
          · rename_i hu
            rw [List.pairwise_cons]
            refine ⟨fun t ht => ?_, ih2⟩
            have hu2 := hl u (List.mem_cons_self ..)
            show y < t.lo
            rcases List.mem_cons.1 ht with rfl | ht
            · omega
            · have := ih'.1 t ht
              omega
      · exact ih'
def coverP (f : Int → Bool) (p : Int) : List Int → Prop
  | [] => False
  | [_] => False
  | x :: y :: r => (f x = true ∧ x ≤ p ∧ p < y) ∨ coverP f p (y :: r)
theorem segs_mem {e : Int} {f : Int → Bool} {l : List Int} (h : l.Pairwise (· < ·)) (p : Int) : (∃ s ∈ segs e f l, s.lo ≤ p ∧ p < s.hi) ↔ coverP f p l := by
  induction l with
  | nil => simp [segs, coverP]
  | cons x t ih =>
    cases t with
    | nil => simp [segs, coverP]
    | cons y r =>
      rw [List.pairwise_cons] at h
      have hxy : x < y := h.1 y (List.mem_cons_self ..)
      have hl := segs_lo (e := e) (f := f) h.2
      unfold segs coverP
      rw [← ih h.2]
      split
      · rename_i hf
        cases hq : segs e f (y :: r) with
        | nil => simp [glue, hf]
        | cons u q =>
          rw [hq] at hl
          have hu := hl u (List.mem_cons_self ..)
          rw [glue_cons]
          split
          · rename_i huy
            simp only [List.mem_cons, exists_eq_or_imp]
            constructor
            · rintro (⟨h1, h2⟩ | h1)
              · by_cases hpy : p < y
                · exact .inl ⟨hf, h1, hpy⟩
                · exact .inr (.inl ⟨by omega, h2⟩)
              · exact .inr (.inr h1)
            · rintro (⟨_, h1, h2⟩ | ⟨h1, h2⟩ | h1)
              · exact .inl ⟨h1, by omega⟩
              · exact .inl ⟨by omega, h2⟩
              · exact .inr h1
          · simp only [List.mem_cons, exists_eq_or_imp]
            constructor
            · rintro (⟨h1, h2⟩ | h1)
              · exact .inl ⟨hf, h1, h2⟩
              · exact .inr h1
            · rintro (⟨_, h1, h2⟩ | h1)
              · exact .inl ⟨h1, h2⟩
              · exact .inr h1
      · rename_i hf
        constructor
        · exact fun h => .inr h
        · rintro (⟨h1, _⟩ | h1)
          · exact absurd h1 hf
          · exact h1
theorem segs_len (e : Int) (f : Int → Bool) (l : List Int) : (segs e f l).length ≤ l.length := by
  induction l with
  | nil => exact Nat.le_refl _
  | cons x t ih =>
    cases t with
    | nil => simp [segs]
    | cons y r =>
      unfold segs
      split
      · cases hq : segs e f (y :: r) with
        | nil => simp [glue]
        | cons u q =>
          rw [hq] at ih
          rw [glue_cons]
          split
          · simp only [List.length_cons] at ih ⊢; omega
          · simp only [List.length_cons] at ih ⊢; omega
      · simp only [List.length_cons] at ih ⊢; omega

/-! Between two neighbours of all ends a list has all or nothing. -/
theorem hasS_const {s : Sn3} {e x p : Int} (hxp : x ≤ p) (h1 : ¬ (x < s.lo ∧ s.lo ≤ p)) (h2 : ¬ (x < s.hi ∧ s.hi ≤ p)) : hasS s e x = hasS s e p := by
  rw [Bool.eq_iff_iff, hasS_iff, hasS_iff]
  omega
theorem any_congr15 {α : Type} {l : List α} {f g : α → Bool} (h : ∀ x ∈ l, f x = g x) : l.any f = l.any g := by
  induction l with
  | nil => rfl
  | cons x r ih => rw [List.any_cons, List.any_cons, h x (List.mem_cons_self ..), ih fun y hy => h y (List.mem_cons_of_mem _ hy)]
theorem hasL_const {l : List Sn3} {ends : List Int} (hc : ∀ s ∈ l, s.lo ∈ ends ∧ s.hi ∈ ends) {e x p : Int} (hxp : x ≤ p) (hn : ∀ z ∈ ends, z ≤ x ∨ p < z) : hasL l e x = hasL l e p :=
  any_congr15 fun s hs => hasS_const hxp (fun h => by have := hn _ (hc s hs).1; omega) (fun h => by have := hn _ (hc s hs).2; omega)
theorem cover_iff {f : Int → Bool} {p : Int} {l : List Int} (h : l.Pairwise (· < ·)) : coverP f p l ↔ ∃ x, x ∈ l ∧ f x = true ∧ x ≤ p ∧ (∀ z ∈ l, z ≤ x ∨ p < z) ∧ ∃ z ∈ l, p < z := by
  induction l with
  | nil => simp [coverP]
  | cons x t ih =>
    cases t with
    | nil =>
      simp only [coverP, false_iff]
      rintro ⟨a, h1, _, h2, _, z, h3, h4⟩
      simp only [List.mem_singleton] at h1 h3
      omega
    | cons y r =>
      have hp := h
      rw [List.pairwise_cons] at h
      have hxy : x < y := h.1 y (List.mem_cons_self ..)
      unfold coverP
      rw [ih h.2]
      constructor
      · rintro (⟨h1, h2, h3⟩ | ⟨a, h1, h2, h3, h4, z, h5, h6⟩)
        · refine ⟨x, List.mem_cons_self .., h1, h2, fun z hz => ?_, y, List.mem_cons_of_mem _ (List.mem_cons_self ..), h3⟩
          rcases List.mem_cons.1 hz with rfl | hz
          · exact .inl (Int.le_refl _)
          · rcases List.mem_cons.1 hz with rfl | hz
            · exact .inr h3
            · have := (List.pairwise_cons.1 h.2).1 z hz
              exact .inr (by omega)
        · refine ⟨a, List.mem_cons_of_mem _ h1, h2, h3, fun z hz => ?_, z, List.mem_cons_of_mem _ h5, h6⟩
          rcases List.mem_cons.1 hz with rfl | hz
          · have := h.1 a h1
            exact .inl (by omega)
          · exact h4 z hz
      · rintro ⟨a, h1, h2, h3, h4, z, h5, h6⟩
        rcases List.mem_cons.1 h1 with rfl | h8
        · refine .inl ⟨h2, h3, ?_⟩
          rcases h4 y (List.mem_cons_of_mem _ (List.mem_cons_self ..)) with h7 | h7
          · omega
          · exact h7
        · refine .inr ⟨a, h8, h2, h3, fun z hz => h4 z (List.mem_cons_of_mem _ hz), ?_⟩
          rcases List.mem_cons.1 h5 with h9 | h9
          · have := h.1 a h8
            omega
          · exact ⟨z, h9, h6⟩
theorem below_max {l : List Int} {p : Int} (h : ∃ z ∈ l, z ≤ p) : ∃ x ∈ l, x ≤ p ∧ ∀ z ∈ l, z ≤ x ∨ p < z := by
  induction l with
  | nil => obtain ⟨z, hz, _⟩ := h; cases hz
  | cons y r ih =>
    by_cases h2 : ∃ z ∈ r, z ≤ p
    · obtain ⟨x, h3, h4, h5⟩ := ih h2
      by_cases h6 : y ≤ p ∧ x < y
      · refine ⟨y, List.mem_cons_self .., h6.1, fun z hz => ?_⟩
        rcases List.mem_cons.1 hz with rfl | hz
        · exact .inl (Int.le_refl _)
        · rcases h5 z hz with h7 | h7
          · exact .inl (by omega)
          · exact .inr h7
      · refine ⟨x, List.mem_cons_of_mem _ h3, h4, fun z hz => ?_⟩
        rcases List.mem_cons.1 hz with rfl | hz
        · omega
        · exact h5 z hz
    · obtain ⟨z, hz, hzp⟩ := h
      rcases List.mem_cons.1 hz with rfl | hz
      · refine ⟨z, List.mem_cons_self .., hzp, fun u hu => ?_⟩
        rcases List.mem_cons.1 hu with rfl | hu
        · exact .inl (Int.le_refl _)
        · exact .inr (Int.not_le.1 fun h => h2 ⟨u, hu, h⟩)
      · exact absurd ⟨z, hz, hzp⟩ h2

/-! The form. -/
def wantF (a b : List Sn3) (k : Kp3) (e x : Int) : Bool := wantB k (hasL a e x) (hasL b e x)
def finE (f : Int → Int → Bool) (ends : List Int) : List Sn3 → List Int → List Sn3
  | out, [] => out
  | out, e :: r => finE f ends (fin15 e (f e) out false ends) r
def formL (a b : List Sn3) (k : Kp3) : List Sn3 := finE (wantF a b k) (endsF [] (a ++ b)) [] (edgesF [] (a ++ b))
theorem finE_segs {f : Int → Int → Bool} {ends : List Int} (h : ends.Pairwise (· < ·)) (out : List Sn3) (l : List Int) : finE f ends out l = out ++ l.flatMap fun e => segs e (f e) ends := by
  induction l generalizing out with
  | nil => simp [finE]
  | cons e r ih => rw [finE, ih, (fin_segs h out).1, List.flatMap_cons, List.append_assoc]
theorem form_flat (a b : List Sn3) (k : Kp3) : formL a b k = (edgesF [] (a ++ b)).flatMap fun e => segs e (wantF a b k e) (endsF [] (a ++ b)) := by
  unfold formL
  rw [finE_segs (ends_sorted .nil _), List.nil_append]
theorem want_cover {a b : List Sn3} {k : Kp3} {e p : Int} : coverP (wantF a b k e) p (endsF [] (a ++ b)) ↔ wantF a b k e p = true := by
  have hs := ends_sorted (q := []) .nil (a ++ b)
  have hca : ∀ s ∈ a, s.lo ∈ endsF [] (a ++ b) ∧ s.hi ∈ endsF [] (a ++ b) := fun s h => ⟨ends_mem.2 (.inr ⟨s, List.mem_append_left _ h, .inl rfl⟩), ends_mem.2 (.inr ⟨s, List.mem_append_left _ h, .inr rfl⟩)⟩
  have hcb : ∀ s ∈ b, s.lo ∈ endsF [] (a ++ b) ∧ s.hi ∈ endsF [] (a ++ b) := fun s h => ⟨ends_mem.2 (.inr ⟨s, List.mem_append_right _ h, .inl rfl⟩), ends_mem.2 (.inr ⟨s, List.mem_append_right _ h, .inr rfl⟩)⟩
  rw [cover_iff hs]
  constructor
  · rintro ⟨x, h1, h2, h3, h4, _⟩
    unfold wantF at h2 ⊢
    rw [← hasL_const hca h3 h4, ← hasL_const hcb h3 h4]
    exact h2
  · intro h
    have hor : hasL a e p = true ∨ hasL b e p = true := by
      unfold wantF at h
      cases h1 : hasL a e p with
      | true => exact .inl rfl
      | false =>
        cases h2 : hasL b e p with
        | true => exact .inr rfl
        | false => rw [h1, h2, want_none] at h; cases h
    have hlh : ∃ lo hi, lo ∈ endsF [] (a ++ b) ∧ hi ∈ endsF [] (a ++ b) ∧ lo ≤ p ∧ p < hi := by
      rcases hor with h1 | h1
      · obtain ⟨s, h2, h3⟩ := hasL_iff.1 h1
        have h4 := hasS_iff.1 h3
        exact ⟨s.lo, s.hi, (hca s h2).1, (hca s h2).2, h4.2.2.2.2.1, h4.2.2.2.2.2⟩
      · obtain ⟨s, h2, h3⟩ := hasL_iff.1 h1
        have h4 := hasS_iff.1 h3
        exact ⟨s.lo, s.hi, (hcb s h2).1, (hcb s h2).2, h4.2.2.2.2.1, h4.2.2.2.2.2⟩
    obtain ⟨lo, hi, h1, h2, h3, h4⟩ := hlh
    obtain ⟨x, h5, h6, h7⟩ := below_max ⟨lo, h1, h3⟩
    refine ⟨x, h5, ?_, h6, h7, hi, h2, h4⟩
    unfold wantF at h ⊢
    rw [hasL_const hca h6 h7, hasL_const hcb h6 h7]
    exact h
theorem want_in {a b : List Sn3} {k : Kp3} {e p : Int} (h : wantF a b k e p = true) : 0 ≤ e ∧ 0 ≤ p ∧ p < 1000000 ∧ e ∈ edgesF [] (a ++ b) := by
  have hor : ∃ s ∈ a ++ b, hasS s e p = true := by
    unfold wantF at h
    cases h1 : hasL a e p with
    | true => obtain ⟨s, h2, h3⟩ := hasL_iff.1 h1; exact ⟨s, List.mem_append_left _ h2, h3⟩
    | false =>
      cases h2 : hasL b e p with
      | true => obtain ⟨s, h2, h3⟩ := hasL_iff.1 h2; exact ⟨s, List.mem_append_right _ h2, h3⟩
      | false => rw [h1, h2, want_none] at h; cases h
  obtain ⟨s, h1, h2⟩ := hor
  have h3 := hasS_iff.1 h2
  exact ⟨by omega, by omega, by omega, edges_mem.2 (.inr ⟨s, h1, h3.2.2.2.1.symm⟩)⟩
def okN (s : Sn3) : Prop := 0 ≤ s.edge ∧ 0 ≤ s.lo ∧ s.lo < s.hi ∧ s.hi ≤ 1000000
def aheadN (s t : Sn3) : Prop := s.edge < t.edge ∨ (s.edge = t.edge ∧ s.hi < t.lo)
def normP (l : List Sn3) : Prop := (∀ s ∈ l, okN s) ∧ l.Pairwise aheadN
theorem segs_ok {a b : List Sn3} {k : Kp3} {e : Int} {s : Sn3} (h : s ∈ segs e (wantF a b k e) (endsF [] (a ++ b))) : okN s ∧ s.edge = e := by
  have hs := ends_sorted (q := []) .nil (a ++ b)
  have hlo : s.lo < s.hi ∧ s.edge = e := by
    cases hq : endsF [] (a ++ b) with
    | nil => rw [hq] at h; cases h
    | cons x r =>
      rw [hq] at h hs
      exact (segs_lo hs s h).2
  have h1 := want_in (want_cover.1 ((segs_mem (e := e) hs s.lo).1 ⟨s, h, Int.le_refl _, hlo.1⟩))
  have h2 := want_in (want_cover.1 ((segs_mem (e := e) hs (s.hi - 1)).1 ⟨s, h, by omega, by omega⟩))
  exact ⟨⟨by rw [hlo.2]; exact h1.1, h1.2.1, hlo.1, by omega⟩, hlo.2⟩
theorem form_norm (a b : List Sn3) (k : Kp3) : normP (formL a b k) := by
  rw [form_flat]
  refine ⟨fun s hs => ?_, ?_⟩
  · obtain ⟨e, _, h⟩ := List.mem_flatMap.1 hs
    exact (segs_ok h).1
  · have hp := edges_sorted (q := []) .nil (a ++ b)
    generalize edgesF [] (a ++ b) = es at hp
    induction es with
    | nil => exact .nil
    | cons e r ih =>
      rw [List.pairwise_cons] at hp
      rw [List.flatMap_cons, List.pairwise_append]
      refine ⟨?_, ih hp.2, fun s hs t ht => ?_⟩
      · refine (segs_pair (ends_sorted .nil _)).imp_of_mem fun hs ht h => ?_
        exact .inr ⟨(segs_ok hs).2.trans (segs_ok ht).2.symm, h⟩
      · obtain ⟨e2, h1, h2⟩ := List.mem_flatMap.1 ht
        refine .inl ?_
        rw [(segs_ok hs).2, (segs_ok h2).2]
        exact hp.1 e2 h1
theorem form_has (a b : List Sn3) (k : Kp3) (e x : Int) : hasL (formL a b k) e x = wantB k (hasL a e x) (hasL b e x) := by
  show _ = wantF a b k e x
  have hs := ends_sorted (q := []) .nil (a ++ b)
  rw [Bool.eq_iff_iff, form_flat, hasL_iff, ← want_cover, ← segs_mem (e := e) hs]
  constructor
  · rintro ⟨s, h1, h2⟩
    obtain ⟨e2, h3, h4⟩ := List.mem_flatMap.1 h1
    have h5 := hasS_iff.1 h2
    obtain rfl : e2 = e := by rw [← (segs_ok h4).2]; exact h5.2.2.2.1
    exact ⟨s, h4, h5.2.2.2.2⟩
  · rintro ⟨s, h1, h2, h3⟩
    have h4 := segs_ok h1
    have h5 := (want_in (want_cover.1 ((segs_mem (e := e) hs x).1 ⟨s, h1, h2, h3⟩))).2.2.2
    exact ⟨s, List.mem_flatMap.2 ⟨e, h5, h1⟩, hasS_iff.2 ⟨h4.1.1, h4.1.2.1, h4.1.2.2.2, h4.2, h2, h3⟩⟩
theorem form_len (a b : List Sn3) (k : Kp3) : (formL a b k).length ≤ (a.length + b.length) * (2 * (a.length + b.length)) := by
  rw [form_flat]
  have h1 := edges_len [] (a ++ b)
  have h2 := ends_len [] (a ++ b)
  rw [List.length_append] at h1 h2
  refine Nat.le_trans ?_ (Nat.mul_le_mul (show (edgesF [] (a ++ b)).length ≤ _ by simpa using h1) (show (endsF [] (a ++ b)).length ≤ _ by simpa using h2))
  generalize edgesF [] (a ++ b) = es
  induction es with
  | nil => simp
  | cons e r ih =>
    rw [List.flatMap_cons, List.length_append, List.length_cons, Nat.succ_mul]
    have := segs_len e (wantF a b k e) (endsF [] (a ++ b))
    omega

/-! There is but one normal form. -/
theorem norm_tail {s : Sn3} {l : List Sn3} (h : normP (s :: l)) : normP l := ⟨fun t ht => h.1 t (List.mem_cons_of_mem _ ht), (List.pairwise_cons.1 h.2).2⟩
theorem hasL_cons (s : Sn3) (l : List Sn3) (e x : Int) : hasL (s :: l) e x = (hasS s e x || hasL l e x) := List.any_cons
theorem ok_has {s : Sn3} (h : okN s) {x : Int} (h1 : s.lo ≤ x) (h2 : x < s.hi) : hasS s s.edge x = true := hasS_iff.2 ⟨h.1, h.2.1, h.2.2.2, rfl, h1, h2⟩
/-- What lies behind the first one. -/
theorem norm_behind {s : Sn3} {l : List Sn3} (h : normP (s :: l)) {e x : Int} (hx : hasL l e x = true) : s.edge < e ∨ (s.edge = e ∧ s.hi < x) := by
  obtain ⟨t, h1, h2⟩ := hasL_iff.1 hx
  have h3 := hasS_iff.1 h2
  rcases (List.pairwise_cons.1 h.2).1 t h1 with h4 | ⟨h4, h5⟩
  · exact .inl (by omega)
  · exact .inr ⟨by omega, by omega⟩
theorem norm_first {s : Sn3} {l : List Sn3} (h : normP (s :: l)) {e x : Int} (hx : hasL (s :: l) e x = true) : s.edge < e ∨ (s.edge = e ∧ s.lo ≤ x) := by
  rw [hasL_cons, Bool.or_eq_true] at hx
  have hs := h.1 s (List.mem_cons_self ..)
  rcases hx with hx | hx
  · have h3 := hasS_iff.1 hx
    exact .inr ⟨h3.2.2.2.1, h3.2.2.2.2.1⟩
  · rcases norm_behind h hx with h4 | ⟨h4, h5⟩
    · exact .inl h4
    · exact .inr ⟨h4, by have := hs.2.2.1; omega⟩
theorem norm_hi {s t : Sn3} {l m : List Sn3} (hl : normP (s :: l)) (hm : normP (t :: m)) (he : s.edge = t.edge) (hlo : s.lo = t.lo) (h : ∀ e x, hasL (s :: l) e x = true → hasL (t :: m) e x = true) : s.hi ≤ t.hi := by
  refine Int.not_lt.1 fun hlt => ?_
  have hs := hl.1 s (List.mem_cons_self ..)
  have ht := hm.1 t (List.mem_cons_self ..)
  have h1 : hasL (s :: l) s.edge t.hi = true := by
    rw [hasL_cons, ok_has hs (by have := ht.2.2.1; omega) hlt]
    rfl
  have h2 := h _ _ h1
  rw [hasL_cons, Bool.or_eq_true] at h2
  rcases h2 with h2 | h2
  · have := hasS_iff.1 h2
    omega
  · rcases norm_behind hm h2 with h3 | ⟨_, h3⟩ <;> omega
theorem norm_uniq {l m : List Sn3} (hl : normP l) (hm : normP m) (h : ∀ e x, hasL l e x = hasL m e x) : l = m := by
  induction l generalizing m with
  | nil =>
    cases m with
    | nil => rfl
    | cons t m =>
      have ht := hm.1 t (List.mem_cons_self ..)
      have := h t.edge t.lo
      rw [hasL_cons, ok_has ht (Int.le_refl _) ht.2.2.1] at this
      cases this
  | cons s l ih =>
    have hs := hl.1 s (List.mem_cons_self ..)
    cases m with
    | nil =>
      have := h s.edge s.lo
      rw [hasL_cons, ok_has hs (Int.le_refl _) hs.2.2.1] at this
      cases this
    | cons t m =>
      have ht := hm.1 t (List.mem_cons_self ..)
      have h1 : hasL (s :: l) s.edge s.lo = true := by rw [hasL_cons, ok_has hs (Int.le_refl _) hs.2.2.1]; rfl
      have h2 : hasL (t :: m) t.edge t.lo = true := by rw [hasL_cons, ok_has ht (Int.le_refl _) ht.2.2.1]; rfl
      have h3 := norm_first hm ((h _ _).symm.trans h1)
      have h4 := norm_first hl ((h _ _).trans h2)
      have he : s.edge = t.edge := by omega
      have hlo : s.lo = t.lo := by omega
      have hhi : s.hi = t.hi := Int.le_antisymm (norm_hi hl hm he hlo fun e x h5 => (h e x).symm.trans h5) (norm_hi hm hl he.symm hlo.symm fun e x h5 => (h e x).trans h5)
      have hst : s = t := by
        obtain ⟨x, y, z⟩ := s
        obtain ⟨u, v, w⟩ := t
        simp only at he hlo hhi
        rw [he, hlo, hhi]
      subst hst
      congr 1
      refine ih (norm_tail hl) (norm_tail hm) fun e x => ?_
      have h5 := h e x
      rw [hasL_cons, hasL_cons] at h5
      cases hq : hasS s e x with
      | false => rw [hq, Bool.false_or, Bool.false_or] at h5; exact h5
      | true =>
        have h6 := hasS_iff.1 hq
        have e1 : hasL l e x = false := by
          cases h7 : hasL l e x with
          | false => rfl
          | true => rcases norm_behind hl h7 with h8 | ⟨_, h8⟩ <;> omega
        have e2 : hasL m e x = false := by
          cases h7 : hasL m e x with
          | false => rfl
          | true => rcases norm_behind hm h7 with h8 | ⟨_, h8⟩ <;> omega
        rw [e1, e2]
theorem form_uniq {l a b : List Sn3} {k : Kp3} (hl : normP l) (h : ∀ e x, hasL l e x = wantB k (hasL a e x) (hasL b e x)) : l = formL a b k :=
  norm_uniq hl (form_norm a b k) fun e x => by rw [h, form_has]

/-! Few spans. -/
theorem nodup_len {l c : List (Int × Int)} (hn : l.Nodup) (hs : ∀ x ∈ l, x ∈ c) : l.length ≤ c.length := by
  induction l generalizing c with
  | nil => exact Nat.zero_le _
  | cons x r ih =>
    rw [List.nodup_cons] at hn
    have hx := hs x (List.mem_cons_self ..)
    have h1 := ih (c := c.erase x) hn.2 fun y hy => (List.mem_erase_of_ne (fun e => hn.1 (by rw [← e]; exact hy))).2 (hs y (List.mem_cons_of_mem _ hy))
    have h2 := List.length_erase_of_mem hx
    have h3 := List.length_pos_of_mem hx
    rw [List.length_cons]
    omega
theorem hasL_turn {a : List Sn3} {e p : Int} (h : hasL a e p ≠ hasL a e (p - 1)) : ∃ s ∈ a, s.edge = e ∧ (s.lo = p ∨ s.hi = p) := by
  have h1 : ∃ s ∈ a, hasS s e p ≠ hasS s e (p - 1) := by
    refine Classical.byContradiction fun hc => h (any_congr15 fun s hs => ?_)
    exact Classical.byContradiction fun h2 => hc ⟨s, hs, h2⟩
  obtain ⟨s, hs, h2⟩ := h1
  refine ⟨s, hs, ?_⟩
  have h3 : ¬ (hasS s e p = true ↔ hasS s e (p - 1) = true) := fun h3 => h2 (Bool.eq_iff_iff.2 h3)
  rw [hasS_iff, hasS_iff] at h3
  omega
theorem norm_len {l a b : List Sn3} {k : Kp3} (hl : normP l) (h : ∀ e x, hasL l e x = wantB k (hasL a e x) (hasL b e x)) : l.length ≤ 2 * (a.length + b.length) := by
  have h0 : (((a ++ b).flatMap fun s => [(s.edge, s.lo), (s.edge, s.hi)]) : List (Int × Int)).length = 2 * (a.length + b.length) := by
    rw [← List.length_append]
    generalize a ++ b = c
    induction c with
    | nil => rfl
    | cons s r ih => rw [List.flatMap_cons, List.length_append, ih, List.length_cons]; simp only [List.length_cons, List.length_nil]; omega
  rw [← h0]
  have h1 : (l.map fun s => (s.edge, s.lo)).Nodup := by
    have h2 := hl.1
    have h3 := hl.2
    clear h hl h0
    induction l with
    | nil => exact .nil
    | cons s r ih =>
      rw [List.pairwise_cons] at h3
      rw [List.map_cons, List.nodup_cons]
      refine ⟨fun hc => ?_, ih (fun t ht => h2 t (List.mem_cons_of_mem _ ht)) h3.2⟩
      obtain ⟨t, h4, h5⟩ := List.mem_map.1 hc
      simp only [Prod.mk.injEq] at h5
      have h6 := h2 s (List.mem_cons_self ..)
      have h7 := h6.2.2.1
      rcases h3.1 t h4 with h8 | h8 <;> omega
  refine Nat.le_trans (Nat.le_of_eq (by rw [List.length_map])) (nodup_len h1 fun x hx => ?_)
  obtain ⟨s, h2, rfl⟩ := List.mem_map.1 hx
  have hs := hl.1 s h2
  have h3 : hasL l s.edge s.lo = true := hasL_iff.2 ⟨s, h2, ok_has hs (Int.le_refl _) hs.2.2.1⟩
  have h4 : hasL l s.edge (s.lo - 1) = false := by
    cases h5 : hasL l s.edge (s.lo - 1) with
    | false => rfl
    | true =>
      obtain ⟨t, h6, h7⟩ := hasL_iff.1 h5
      have h8 := hasS_iff.1 h7
      obtain ⟨q, r, rfl⟩ := List.append_of_mem h2
      have hp := hl.2
      rw [List.pairwise_append, List.pairwise_cons] at hp
      rcases List.mem_append.1 h6 with h6 | h6
      · rcases hp.2.2 t h6 s (List.mem_cons_self ..) with h9 | h9 <;> omega
      · rcases List.mem_cons.1 h6 with rfl | h6
        · omega
        · have := hs.2.2.1
          rcases hp.2.1.1 t h6 with h9 | h9 <;> omega
  rw [h] at h3 h4
  have h5 : ∃ u ∈ a ++ b, u.edge = s.edge ∧ (u.lo = s.lo ∨ u.hi = s.lo) := by
    by_cases h6 : hasL a s.edge s.lo = hasL a s.edge (s.lo - 1)
    · by_cases h7 : hasL b s.edge s.lo = hasL b s.edge (s.lo - 1)
      · rw [h6, h7, h4] at h3; cases h3
      · obtain ⟨u, h8, h9⟩ := hasL_turn h7
        exact ⟨u, List.mem_append_right _ h8, h9⟩
    · obtain ⟨u, h8, h9⟩ := hasL_turn h6
      exact ⟨u, List.mem_append_left _ h8, h9⟩
  obtain ⟨u, h6, h7, h8⟩ := h5
  refine List.mem_flatMap.2 ⟨u, h6, ?_⟩
  simp only [List.mem_cons, List.not_mem_nil, or_false, Prod.mk.injEq]
  rcases h8 with h8 | h8
  · exact .inl ⟨h7.symm, h8.symm⟩
  · exact .inr ⟨h7.symm, h8.symm⟩
theorem form_few (a b : List Sn3) (k : Kp3) : (formL a b k).length ≤ 2 * (a.length + b.length) := norm_len (form_norm a b k) (form_has a b k)
end Go.Proofs.Yteioefgckigbcaa
