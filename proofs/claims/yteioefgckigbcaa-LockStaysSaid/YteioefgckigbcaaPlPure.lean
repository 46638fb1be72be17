/-
  place, pure: positions of a track as plain records; to walk, how far along a way, which place so far along it.
-/
import Derived.Test.YteioefgckigbcaaTpPure

namespace Go.Proofs.Yteioefgckigbcaa

structure Ps3 where
  edge : Int
  at_ : Int
  rev : Bool
def eqP (a b : Ps3) : Bool := (a.edge == b.edge) && ((a.at_ == b.at_) && (a.rev == b.rev))
theorem eqP_iff (a b : Ps3) : eqP a b = true ↔ a = b := by
  obtain ⟨x, y, z⟩ := a
  obtain ⟨u, v, w⟩ := b
  unfold eqP
  simp
def stepP (p : Ps3) : St3 := ⟨p.edge, p.rev⟩
def turnP (p : Ps3) : Ps3 := ⟨p.edge, p.at_, !p.rev⟩
def edgeLen (t : Tp3) (e : Int) : Int := t.edges.getD e.toNat 0
theorem lenAt_edge (t : Tp3) (s : St3) : lenAt t s = edgeLen t s.edge := rfl
def onB (t : Tp3) (p : Ps3) : Bool := edgeB t p.edge && (decide (0 ≤ p.at_) && decide (p.at_ ≤ edgeLen t p.edge))
def rightP (t : Tp3) (p : Ps3) : Bool := decide (checkE t = 0) && onB t p
def aheadP (t : Tp3) (p : Ps3) : Int := if p.rev = true then p.at_ else edgeLen t p.edge - p.at_
def movedP (p : Ps3) (n : Int) : Ps3 := if p.rev = true then ⟨p.edge, p.at_ - n, true⟩ else ⟨p.edge, p.at_ + n, false⟩
def beginP (t : Tp3) (s : St3) : Ps3 := if s.rev = true then ⟨s.edge, edgeLen t s.edge, true⟩ else ⟨s.edge, 0, false⟩
def zeroP : Ps3 := ⟨0, 0, false⟩
theorem on_iff {t : Tp3} {p : Ps3} : onB t p = true ↔ edgeB t p.edge = true ∧ 0 ≤ p.at_ ∧ p.at_ ≤ edgeLen t p.edge := by
  unfold onB
  simp only [Bool.and_eq_true, decide_eq_true_eq]
theorem step_moved (p : Ps3) (n : Int) : stepP (movedP p n) = stepP p := by
  obtain ⟨e, a, r⟩ := p
  cases r <;> rfl
theorem edge_moved (p : Ps3) (n : Int) : (movedP p n).edge = p.edge := by
  obtain ⟨e, a, r⟩ := p
  cases r <;> rfl
theorem ahead_moved (t : Tp3) (p : Ps3) (n : Int) : aheadP t (movedP p n) = aheadP t p - n := by
  obtain ⟨e, a, r⟩ := p
  cases r
  · show edgeLen t e - (a + n) = edgeLen t e - a - n
    omega
  · rfl
theorem moved_moved (p : Ps3) (n m : Int) : movedP (movedP p n) m = movedP p (n + m) := by
  obtain ⟨e, a, r⟩ := p
  cases r
  · show (⟨e, a + n + m, false⟩ : Ps3) = ⟨e, a + (n + m), false⟩
    rw [Int.add_assoc]
  · show (⟨e, a - n - m, true⟩ : Ps3) = ⟨e, a - (n + m), true⟩
    rw [show a - n - m = a - (n + m) from by omega]
theorem moved_zero (p : Ps3) : movedP p 0 = p := by
  obtain ⟨e, a, r⟩ := p
  cases r
  · show (⟨e, a + 0, false⟩ : Ps3) = ⟨e, a, false⟩
    rw [Int.add_zero]
  · show (⟨e, a - 0, true⟩ : Ps3) = ⟨e, a, true⟩
    rw [Int.sub_zero]
theorem step_begin (t : Tp3) (s : St3) : stepP (beginP t s) = s := by
  obtain ⟨e, r⟩ := s
  cases r <;> rfl
theorem edge_begin (t : Tp3) (s : St3) : (beginP t s).edge = s.edge := by
  obtain ⟨e, r⟩ := s
  cases r <;> rfl
theorem ahead_begin (t : Tp3) (s : St3) : aheadP t (beginP t s) = lenAt t s := by
  obtain ⟨e, r⟩ := s
  cases r
  · exact Int.sub_zero _
  · rfl
theorem moved_on {t : Tp3} {p : Ps3} (h : onB t p = true) {n : Int} (h0 : 0 ≤ n) (hn : n ≤ aheadP t p) : onB t (movedP p n) = true := by
  obtain ⟨e, a, r⟩ := p
  obtain ⟨h1, h2, h3⟩ := on_iff.1 h
  simp only at h1 h2 h3
  cases r
  · have hn' : n ≤ edgeLen t e - a := hn
    exact on_iff.2 ⟨h1, show 0 ≤ a + n by omega, show a + n ≤ edgeLen t e by omega⟩
  · have hn' : n ≤ a := hn
    exact on_iff.2 ⟨h1, show 0 ≤ a - n by omega, show a - n ≤ edgeLen t e by omega⟩
theorem begin_on {t : Tp3} (ht : edgesOk t = true) {s : St3} (h : edgeB t s.edge = true) : onB t (beginP t s) = true := by
  have h1 := lenAt_ok ht h
  obtain ⟨e, r⟩ := s
  have h2 : 1 ≤ edgeLen t e := h1.1
  cases r
  · exact on_iff.2 ⟨h, Int.le_refl 0, show (0 : Int) ≤ edgeLen t e by omega⟩
  · exact on_iff.2 ⟨h, show (0 : Int) ≤ edgeLen t e by omega, Int.le_refl _⟩
theorem ahead_ok {t : Tp3} (ht : edgesOk t = true) {p : Ps3} (h : onB t p = true) : 0 ≤ aheadP t p ∧ aheadP t p ≤ 1000000 := by
  obtain ⟨h1, h2, h3⟩ := on_iff.1 h
  have h4 := lenAt_ok ht (s := stepP p) h1
  rw [lenAt_edge] at h4
  have h5 : edgeLen t (stepP p).edge = edgeLen t p.edge := rfl
  rw [h5] at h4
  unfold aheadP
  split <;> omega

def walkF (t : Tp3) : Nat → Ps3 → Int → Ps3 × Int
  | 0, p, n => if n ≤ aheadP t p then (movedP p n, 0) else if (afterL t (stepP p)).length = 0 then (zeroP, 141) else if 1 < (afterL t (stepP p)).length then (zeroP, 140) else (zeroP, 2)
  | k + 1, p, n => if n ≤ aheadP t p then (movedP p n, 0) else if (afterL t (stepP p)).length = 0 then (zeroP, 141) else if 1 < (afterL t (stepP p)).length then (zeroP, 140) else walkF t k (beginP t ((afterL t (stepP p)).getD 0 ⟨0, false⟩)) (n - aheadP t p)
theorem walk_here {t : Tp3} {k : Nat} {p : Ps3} {n : Int} (h : n ≤ aheadP t p) : walkF t k p n = (movedP p n, 0) := by
  cases k <;> rw [walkF, if_pos h]
theorem walk_end {t : Tp3} {k : Nat} {p : Ps3} {n : Int} (h : ¬ n ≤ aheadP t p) (h1 : (afterL t (stepP p)).length = 0) : walkF t k p n = (zeroP, 141) := by
  cases k <;> rw [walkF, if_neg h, if_pos h1]
theorem walk_fork {t : Tp3} {k : Nat} {p : Ps3} {n : Int} (h : ¬ n ≤ aheadP t p) (h1 : 1 < (afterL t (stepP p)).length) : walkF t k p n = (zeroP, 140) := by
  cases k <;> rw [walkF, if_neg h, if_neg (by omega), if_pos h1]
theorem walk_long {t : Tp3} {p : Ps3} {n : Int} (h : ¬ n ≤ aheadP t p) (h1 : (afterL t (stepP p)).length = 1) : walkF t 0 p n = (zeroP, 2) := by
  rw [walkF, if_neg h, if_neg (by omega), if_neg (by omega)]
theorem walk_on {t : Tp3} {k : Nat} {p : Ps3} {n : Int} {s : St3} (h : ¬ n ≤ aheadP t p) (h1 : afterL t (stepP p) = [s]) : walkF t (k + 1) p n = walkF t k (beginP t s) (n - aheadP t p) := by
  rw [walkF, if_neg h, h1]
  rfl
theorem len_one {α : Type} {l : List α} (h : l.length = 1) : ∃ s, l = [s] := List.length_eq_one_iff.1 h
/-- One way to go on, or none. -/
theorem walk_cases (t : Tp3) (k : Nat) (p : Ps3) (n : Int) :
    (n ≤ aheadP t p ∧ walkF t k p n = (movedP p n, 0)) ∨ (¬ n ≤ aheadP t p ∧ ((∃ e, walkF t k p n = (zeroP, e) ∧ (e = 141 ∨ e = 140 ∨ e = 2) ∧ (e = 2 → k = 0)) ∨ ∃ s j, k = j + 1 ∧ afterL t (stepP p) = [s] ∧ walkF t k p n = walkF t j (beginP t s) (n - aheadP t p))) := by
  by_cases h : n ≤ aheadP t p
  · exact .inl ⟨h, walk_here h⟩
  · refine .inr ⟨h, ?_⟩
    by_cases h1 : (afterL t (stepP p)).length = 0
    · exact .inl ⟨141, walk_end h h1, .inl rfl, fun e => absurd e (by decide)⟩
    · by_cases h2 : 1 < (afterL t (stepP p)).length
      · exact .inl ⟨140, walk_fork h h2, .inr (.inl rfl), fun e => absurd e (by decide)⟩
      · have h3 : (afterL t (stepP p)).length = 1 := by omega
        cases k with
        | zero => exact .inl ⟨2, walk_long h h3, .inr (.inr rfl), fun _ => rfl⟩
        | succ j =>
          obtain ⟨s, hs⟩ := len_one h3
          exact .inr ⟨s, j, rfl, hs, walk_on h hs⟩
theorem walk_zero {t : Tp3} {k : Nat} {p : Ps3} {n : Int} (h : (walkF t k p n).2 ≠ 0) : (walkF t k p n).1 = zeroP := by
  induction k generalizing p n with
  | zero =>
    rcases walk_cases t 0 p n with ⟨_, e⟩ | ⟨_, ⟨e, he, _⟩ | ⟨s, j, hj, _⟩⟩
    · rw [e] at h; exact absurd rfl h
    · rw [he]
    · omega
  | succ k ih =>
    rcases walk_cases t (k + 1) p n with ⟨_, e⟩ | ⟨_, ⟨e, he, _⟩ | ⟨s, j, hj, _, hw⟩⟩
    · rw [e] at h; exact absurd rfl h
    · rw [he]
    · obtain rfl : k = j := by omega
      rw [hw] at h ⊢
      exact ih h
theorem walk_right {t : Tp3} (ht : edgesOk t = true) {k : Nat} {p : Ps3} {n : Int} (hp : onB t p = true) (hn : 0 ≤ n) (h : (walkF t k p n).2 = 0) : onB t (walkF t k p n).1 = true := by
  induction k generalizing p n with
  | zero =>
    rcases walk_cases t 0 p n with ⟨h1, e⟩ | ⟨_, ⟨e, he, h2, _⟩ | ⟨s, j, hj, _⟩⟩
    · rw [e]; exact moved_on hp hn h1
    · rw [he] at h
      have h : e = 0 := h
      omega
    · omega
  | succ k ih =>
    rcases walk_cases t (k + 1) p n with ⟨h1, e⟩ | ⟨h1, ⟨e, he, h2, _⟩ | ⟨s, j, hj, hs, hw⟩⟩
    · rw [e]; exact moved_on hp hn h1
    · rw [he] at h
      have h : e = 0 := h
      omega
    · obtain rfl : k = j := by omega
      rw [hw] at h ⊢
      have hm : s ∈ afterL t (stepP p) := by rw [hs]; exact List.mem_singleton.2 rfl
      exact ih (begin_on ht (after_mem.1 hm).2.1) (by omega) h
/-- More edges may be left: the same place. -/
theorem walk_more {t : Tp3} {k : Nat} {p : Ps3} {n : Int} {x : Ps3} (h : walkF t k p n = (x, 0)) : walkF t (k + 1) p n = (x, 0) := by
  induction k generalizing p n with
  | zero =>
    rcases walk_cases t 0 p n with ⟨h1, e⟩ | ⟨_, ⟨e, he, h2, _⟩ | ⟨s, j, hj, _⟩⟩
    · rw [walk_here h1, ← h, e]
    · rw [he] at h
      have h : e = 0 := congrArg Prod.snd h
      omega
    · omega
  | succ k ih =>
    rcases walk_cases t (k + 1) p n with ⟨h1, e⟩ | ⟨h1, ⟨e, he, h2, _⟩ | ⟨s, j, hj, hs, hw⟩⟩
    · rw [walk_here h1, ← h, e]
    · rw [he] at h
      have h : e = 0 := congrArg Prod.snd h
      omega
    · obtain rfl : k = j := by omega
      rw [walk_on h1 hs]
      rw [hw] at h
      exact ih h
theorem walk_part {t : Tp3} {k : Nat} {p x : Ps3} {a b : Int} (h0 : a ≤ aheadP t p) (h : walkF t k p (a + b) = (x, 0)) : walkF t k p a = (movedP p a, 0) ∧ walkF t k (movedP p a) b = (x, 0) := by
  refine ⟨walk_here h0, ?_⟩
  by_cases h1 : a + b ≤ aheadP t p
  · rw [walk_here h1] at h
    rw [walk_here (by rw [ahead_moved]; omega), moved_moved]
    exact h
  · have h2 : ¬ b ≤ aheadP t (movedP p a) := by rw [ahead_moved]; omega
    rcases walk_cases t k p (a + b) with ⟨h3, _⟩ | ⟨_, ⟨e, he, h3, _⟩ | ⟨s, j, hj, hs, hw⟩⟩
    · exact absurd h3 h1
    · rw [he] at h
      have h : e = 0 := congrArg Prod.snd h
      omega
    · subst hj
      rw [walk_on h2 (by rw [step_moved]; exact hs), ahead_moved, show b - (aheadP t p - a) = a + b - aheadP t p from by omega, ← hw]
      exact h
/-- To walk is to walk a part, and then the rest. -/
theorem walk_sum {t : Tp3} {k : Nat} {p x : Ps3} {a b : Int} (hb : 0 ≤ b) (h : walkF t k p (a + b) = (x, 0)) : ∃ y, walkF t k p a = (y, 0) ∧ walkF t k y b = (x, 0) := by
  by_cases h0 : a ≤ aheadP t p
  · exact ⟨_, walk_part h0 h⟩
  · induction k generalizing p a with
    | zero =>
      rcases walk_cases t 0 p (a + b) with ⟨h3, _⟩ | ⟨_, ⟨e, he, h3, _⟩ | ⟨s, j, hj, hs, hw⟩⟩
      · omega
      · rw [he] at h
        have h : e = 0 := congrArg Prod.snd h
        omega
      · omega
    | succ k ih =>
      rcases walk_cases t (k + 1) p (a + b) with ⟨h3, _⟩ | ⟨_, ⟨e, he, h3, _⟩ | ⟨s, j, hj, hs, hw⟩⟩
      · omega
      · rw [he] at h
        have h : e = 0 := congrArg Prod.snd h
        omega
      · obtain rfl : k = j := by omega
        rw [walk_on h0 hs]
        rw [hw, show a + b - aheadP t p = a - aheadP t p + b from by omega] at h
        by_cases h4 : a - aheadP t p ≤ aheadP t (beginP t s)
        · have := walk_part h4 h
          exact ⟨_, this.1, walk_more this.2⟩
        · obtain ⟨y, hy, hz⟩ := ih h h4
          exact ⟨y, hy, walk_more hz⟩

def onGo (t : Tp3) (p : Ps3) : List St3 → Int → Option Int
  | [], _ => none
  | s :: r, n => if eqS s (stepP p) = true then some (n + lenAt t s - aheadP t p) else onGo t p r (n + lenAt t s)
def offGo (t : Tp3) : List St3 → Int → Ps3
  | [], _ => zeroP
  | s :: r, n => if n ≤ lenAt t s then movedP (beginP t s) n else offGo t r (n - lenAt t s)
theorem on_app {t : Tp3} {p : Ps3} {a b : List St3} {c : Int} (h : ∀ s ∈ a, s ≠ stepP p) : onGo t p (a ++ b) c = onGo t p b (c + sumT t a) := by
  induction a generalizing c with
  | nil =>
    show onGo t p b c = onGo t p b (c + 0)
    rw [Int.add_zero]
  | cons x r ih =>
    show onGo t p (x :: (r ++ b)) c = _
    rw [onGo, if_neg (by rw [eqS_iff]; exact h x (List.mem_cons_self ..)), ih fun s hs => h s (List.mem_cons_of_mem _ hs), show c + sumT t (x :: r) = c + (lenAt t x + sumT t r) from rfl, Int.add_assoc]
/-- Where the place lies: on which step, and how far along it. -/
theorem off_at {t : Tp3} {path : List St3} {n : Int} (h0 : 0 ≤ n) (hn : n ≤ sumT t path) (hp : path ≠ []) : ∃ l s r m, path = l ++ s :: r ∧ n = sumT t l + m ∧ 0 ≤ m ∧ m ≤ lenAt t s ∧ offGo t path n = movedP (beginP t s) m := by
  induction path generalizing n with
  | nil => exact absurd rfl hp
  | cons x r ih =>
    have hn' : n ≤ lenAt t x + sumT t r := hn
    by_cases h : n ≤ lenAt t x
    · exact ⟨[], x, r, n, rfl, by simp [sumT], h0, h, by rw [offGo, if_pos h]⟩
    · have hr : r ≠ [] := by
        rintro rfl
        have : sumT t [] = 0 := rfl
        omega
      obtain ⟨l, s, r', m, h1, h2, h3, h4, h5⟩ := ih (n := n - lenAt t x) (by omega) (by omega) hr
      refine ⟨x :: l, s, r', m, by rw [h1]; rfl, ?_, h3, h4, by rw [offGo, if_neg h, h5]⟩
      show n = lenAt t x + sumT t l + m
      omega
theorem off_right {t : Tp3} (ht : edgesOk t = true) {path : List St3} (he : ∀ s ∈ path, edgeB t s.edge = true) {n : Int} (h0 : 0 ≤ n) (hn : n ≤ sumT t path) (hp : path ≠ []) : onB t (offGo t path n) = true := by
  obtain ⟨l, s, r, m, h1, h2, h3, h4, h5⟩ := off_at h0 hn hp
  rw [h5]
  exact moved_on (begin_on ht (he s (by rw [h1]; simp))) h3 (by rw [ahead_begin]; exact h4)
theorem sum_back (t : Tp3) (path : List St3) : sumT t (backL path) = sumT t path := by
  induction path with
  | nil => rfl
  | cons x r ih =>
    have h1 : backL (x :: r) = backL r ++ [revS x] := by simp [backL]
    rw [h1, sum_app, ih]
    show sumT t r + (lenAt t x + 0) = lenAt t x + sumT t r
    omega
theorem back_app (l : List St3) (s : St3) (r : List St3) : backL (l ++ s :: r) = backL r ++ revS s :: backL l := by
  simp [backL]
theorem turn_step (p : Ps3) : stepP (turnP p) = revS (stepP p) := rfl
theorem ahead_turn (t : Tp3) (p : Ps3) : aheadP t (turnP p) = edgeLen t p.edge - aheadP t p := by
  obtain ⟨e, a, r⟩ := p
  cases r
  · show a = edgeLen t e - (edgeLen t e - a)
    omega
  · rfl
theorem turn_on (t : Tp3) (p : Ps3) : onB t (turnP p) = onB t p := rfl
/-- The way back has the place as far from its end. -/
theorem on_off {t : Tp3} {path : List St3} {n : Int} (h0 : 0 ≤ n) (hn : n ≤ sumT t path) (hp : path ≠ []) (hd : (path.map (·.edge)).Nodup) : onGo t (offGo t path n) path 0 = some n ∧ onGo t (turnP (offGo t path n)) (backL path) 0 = some (sumT t path - n) := by
  obtain ⟨l, s, r, m, h1, h2, h3, h4, h5⟩ := off_at h0 hn hp
  rw [h5]
  have hst : stepP (movedP (beginP t s) m) = s := by rw [step_moved, step_begin]
  rw [h1, List.map_append, List.map_cons, List.nodup_append] at hd
  obtain ⟨_, hd2, hd3⟩ := hd
  rw [List.nodup_cons] at hd2
  have hl : ∀ x ∈ l, x.edge ≠ s.edge := fun x hx => hd3 _ (List.mem_map_of_mem hx) _ (List.mem_cons_self ..)
  have hr : ∀ x ∈ r, x.edge ≠ s.edge := fun x hx e => hd2.1 (by rw [← e]; exact List.mem_map_of_mem hx)
  constructor
  · rw [h1, on_app (by intro x hx e; rw [hst] at e; exact hl x hx (congrArg St3.edge e)), onGo, hst, if_pos ((eqS_iff s s).2 rfl), ahead_moved, ahead_begin]
    congr 1
    omega
  · have hst2 : stepP (turnP (movedP (beginP t s) m)) = revS s := by rw [turn_step, hst]
    rw [h1, back_app, on_app (by
      intro x hx e
      rw [hst2] at e
      unfold backL at hx
      rw [List.mem_reverse, List.mem_map] at hx
      obtain ⟨y, hy, rfl⟩ := hx
      exact hr y hy (show (revS y).edge = (revS s).edge from congrArg St3.edge e)), onGo, hst2, if_pos ((eqS_iff _ _).2 rfl), ahead_turn, ahead_moved, ahead_begin, edge_moved, edge_begin, sum_back, sum_app]
    have e1 : lenAt t (revS s) = lenAt t s := rfl
    have e2 : sumT t (s :: r) = lenAt t s + sumT t r := rfl
    have e3 := lenAt_edge t s
    congr 1
    omega
/-- Who walks along a way is as much further along it, or stands before a fork. -/
theorem along_here {t : Tp3} {k : Nat} {s : St3} {r : List St3} {a m : Int} (ht : edgesOk t = true) (he : ∀ x ∈ s :: r, edgeB t x.edge = true) (hw : wayB t (s :: r) = true) (ha : 0 ≤ a) (hal : a ≤ lenAt t s) (hm : 0 ≤ m) (hs : a + m ≤ sumT t (s :: r)) (hk : r.length ≤ k) : walkF t k (movedP (beginP t s) a) m = (offGo t (s :: r) (a + m), 0) ∨ (walkF t k (movedP (beginP t s) a) m).2 = 140 := by
  induction r generalizing k s a m with
  | nil =>
    have h1 : a + m ≤ lenAt t s := by
      have : sumT t [s] = lenAt t s + 0 := rfl
      omega
    rw [walk_here (by rw [ahead_moved, ahead_begin]; omega), moved_moved, offGo, if_pos h1]
    exact .inl rfl
  | cons y r ih =>
    by_cases h : a + m ≤ lenAt t s
    · rw [walk_here (by rw [ahead_moved, ahead_begin]; omega), moved_moved, offGo, if_pos h]
      exact .inl rfl
    · rw [wayB, Bool.and_eq_true] at hw
      have hx : ¬ m ≤ aheadP t (movedP (beginP t s) a) := by rw [ahead_moved, ahead_begin]; omega
      have hst : stepP (movedP (beginP t s) a) = s := by rw [step_moved, step_begin]
      have hy : y ∈ afterL t s := after_mem.2 ⟨he s (List.mem_cons_self ..), he y (by simp), hw.1⟩
      have hl : (afterL t s).length ≠ 0 := by
        intro h0
        rw [List.length_eq_zero_iff.1 h0] at hy
        cases hy
      by_cases h2 : 1 < (afterL t s).length
      · rw [walk_fork hx (by rw [hst]; exact h2)]
        exact .inr rfl
      · obtain ⟨z, hz⟩ := len_one (l := afterL t s) (by omega)
        have : y = z := by
          rw [hz] at hy
          exact List.mem_singleton.1 hy
        subst this
        obtain ⟨j, rfl⟩ : ∃ j, k = j + 1 := ⟨k - 1, by rw [List.length_cons] at hk; omega⟩
        have h3 : sumT t (s :: y :: r) = lenAt t s + sumT t (y :: r) := rfl
        have h4 := lenAt_ok ht (he y (by simp))
        have := ih (k := j) (s := y) (a := 0) (m := m - (lenAt t s - a)) (fun x hx => he x (List.mem_cons_of_mem _ hx)) hw.2 (Int.le_refl 0) (by omega) (by omega) (by omega) (by rw [List.length_cons] at hk; omega)
        rw [walk_on hx (by rw [hst]; exact hz), ahead_moved, ahead_begin, offGo, if_neg h, show a + m - lenAt t s = 0 + (m - (lenAt t s - a)) from by omega]
        rw [moved_zero] at this
        exact this
theorem along {t : Tp3} {path : List St3} {n m : Int} {k : Nat} (ht : edgesOk t = true) (he : ∀ x ∈ path, edgeB t x.edge = true) (hw : wayB t path = true) (h0 : 0 ≤ n) (hm : 0 ≤ m) (hs : n + m ≤ sumT t path) (hp : path ≠ []) (hk : path.length ≤ k) : walkF t k (offGo t path n) m = (offGo t path (n + m), 0) ∨ (walkF t k (offGo t path n) m).2 = 140 := by
  induction path generalizing n with
  | nil => exact absurd rfl hp
  | cons s r ih =>
    have h3 : sumT t (s :: r) = lenAt t s + sumT t r := rfl
    by_cases h : n ≤ lenAt t s
    · have h1 : offGo t (s :: r) n = movedP (beginP t s) n := by rw [offGo, if_pos h]
      rw [h1]
      exact along_here ht he hw h0 h hm hs (by rw [List.length_cons] at hk; omega)
    · have hr : r ≠ [] := by
        rintro rfl
        have : sumT t [] = 0 := rfl
        omega
      have h1 : offGo t (s :: r) n = offGo t r (n - lenAt t s) := by rw [offGo, if_neg h]
      have h2 : offGo t (s :: r) (n + m) = offGo t r (n - lenAt t s + m) := by rw [offGo, if_neg (by omega), show n + m - lenAt t s = n - lenAt t s + m from by omega]
      rw [h1, h2]
      refine ih (fun x hx => he x (List.mem_cons_of_mem _ hx)) ?_ (by omega) (by omega) hr (by rw [List.length_cons] at hk; omega)
      cases r with
      | nil => exact absurd rfl hr
      | cons y r =>
        rw [wayB, Bool.and_eq_true] at hw
        exact hw.2

def walkE (t : Tp3) (p : Ps3) (n : Int) : Ps3 × Int := if rightP t p = true ∧ 0 ≤ n ∧ n ≤ 1099511627776 then walkF t 40 p n else (zeroP, 1)
def locE (t : Tp3) (id : Int) (rev : Bool) (n : Int) : Ps3 × Int := if checkE t = 0 then (match balF t id with | some b => walkE t ⟨b.edge, b.at_, rev⟩ n | none => (zeroP, 4)) else (zeroP, 1)
def onE (t : Tp3) (path : List St3) (p : Ps3) : Int × Int := if rightP t p = true then (if lenE t path = 0 then (match onGo t p path 0 with | some n => (n, 0) | none => (0, 4)) else (0, lenE t path)) else (0, 1)
def offE (t : Tp3) (path : List St3) (n : Int) : Ps3 × Int := if checkE t = 0 then (if lenE t path = 0 then (if 0 ≤ n ∧ n ≤ sumT t path then (offGo t path n, 0) else (zeroP, 1)) else (zeroP, lenE t path)) else (zeroP, 1)
theorem len_ok {t : Tp3} {path : List St3} (h : lenE t path = 0) : path ≠ [] ∧ path.length ≤ 40 ∧ (∀ s ∈ path, edgeB t s.edge = true) ∧ wayB t path = true := by
  unfold lenE at h
  split at h
  · exact absurd h (by decide)
  · rename_i h1
    split at h
    · rename_i h2
      split at h
      · rename_i h3
        rw [List.all_eq_true] at h2
        refine ⟨?_, by omega, h2, h3⟩
        rintro rfl
        exact h1 (.inl rfl)
      · exact absurd h (by decide)
    · exact absurd h (by decide)
theorem right_iff {t : Tp3} {p : Ps3} : rightP t p = true ↔ checkE t = 0 ∧ onB t p = true := by
  unfold rightP
  rw [Bool.and_eq_true, decide_eq_true_eq]
theorem walkE_sum {t : Tp3} {p : Ps3} {a b : Int} (ha : 0 ≤ a) (hb : 0 ≤ b) : ((walkE t p (a + b)).2 ≠ 0 → (walkE t p (a + b)).1 = zeroP) ∧ ((walkE t p (a + b)).2 = 0 → (walkE t p a).2 = 0 ∧ walkE t (walkE t p a).1 b = walkE t p (a + b) ∧ rightP t (walkE t p (a + b)).1 = true) := by
  unfold walkE
  by_cases h : rightP t p = true ∧ 0 ≤ a + b ∧ a + b ≤ 1099511627776
  · rw [if_pos h]
    refine ⟨walk_zero, fun h1 => ?_⟩
    obtain ⟨hr, _, h2⟩ := h
    rw [if_pos ⟨hr, ha, by omega⟩]
    obtain ⟨hc, ho⟩ := right_iff.1 hr
    have ht := (check_routes hc).1
    obtain ⟨y, hy, hz⟩ := walk_sum (x := (walkF t 40 p (a + b)).1) hb (Prod.ext rfl h1)
    have hy2 := walk_right ht ho ha (by rw [hy])
    rw [hy] at hy2 ⊢
    refine ⟨rfl, ?_, right_iff.2 ⟨hc, walk_right ht ho (by omega) h1⟩⟩
    rw [if_pos ⟨right_iff.2 ⟨hc, hy2⟩, hb, by omega⟩, hz]
    exact Prod.ext rfl h1.symm
  · rw [if_neg h]
    exact ⟨fun _ => rfl, fun h1 => absurd h1 (show ¬ (1 : Int) = 0 by decide)⟩
theorem len_back {t : Tp3} {path : List St3} (h : lenE t path = 0) : lenE t (backL path) = 0 := by
  obtain ⟨h1, h2, h3, h4⟩ := len_ok h
  have hl : (backL path).length = path.length := by simp [backL]
  have h0 : path.length ≠ 0 := fun e => h1 (List.length_eq_zero_iff.1 e)
  have he : ((backL path).all fun s => edgeB t s.edge) = true := by
    rw [List.all_eq_true]
    intro x hx
    unfold backL at hx
    rw [List.mem_reverse, List.mem_map] at hx
    obtain ⟨y, hy, rfl⟩ := hx
    exact h3 y hy
  have hw : wayB t (backL path) = true := by
    rw [way_at] at h4 ⊢
    intro i a b ha hb
    have hib : i + 1 < path.length := by
      rw [← hl]
      exact (List.getElem?_eq_some_iff.1 hb).1
    unfold backL at ha hb
    rw [List.getElem?_reverse (by rw [List.length_map]; omega), List.length_map, List.getElem?_map] at ha hb
    rw [Option.map_eq_some_iff] at ha hb
    obtain ⟨x, hx, rfl⟩ := ha
    obtain ⟨y, hy, rfl⟩ := hb
    rw [may_rev]
    exact h4 (path.length - 1 - (i + 1)) y x hy (by rw [← hx]; congr 1; omega)
  unfold lenE
  rw [if_neg (by rw [hl]; omega), if_pos he, if_pos hw]
theorem placeBack {t : Tp3} {path : List St3} {n : Int} (hd : (path.map (·.edge)).Nodup) : ((offE t path n).2 ≠ 0 → (offE t path n).1 = zeroP) ∧ ((offE t path n).2 = 0 → onE t path (offE t path n).1 = (n, 0) ∧ lenE t path = 0 ∧ onE t (backL path) (turnP (offE t path n).1) = (sumT t path - n, 0)) := by
  unfold offE
  split
  · rename_i hc
    split
    · rename_i hl
      split
      · rename_i hn
        refine ⟨fun h => absurd rfl h, fun _ => ?_⟩
        obtain ⟨h1, h2, h3, h4⟩ := len_ok hl
        have hr := off_right (check_routes hc).1 h3 hn.1 hn.2 h1
        obtain ⟨e1, e2⟩ := on_off hn.1 hn.2 h1 hd
        refine ⟨?_, hl, ?_⟩
        · unfold onE
          rw [if_pos (right_iff.2 ⟨hc, hr⟩), if_pos hl, e1]
        · show onE t (backL path) (turnP (offGo t path n)) = _
          unfold onE
          rw [if_pos (right_iff.2 ⟨hc, (turn_on t _).trans hr⟩), if_pos (len_back hl), e2]
      · exact ⟨fun _ => rfl, fun h => absurd h (show ¬ (1 : Int) = 0 by decide)⟩
    · rename_i hl
      exact ⟨fun _ => rfl, fun h => absurd h hl⟩
  · exact ⟨fun _ => rfl, fun h => absurd h (show ¬ (1 : Int) = 0 by decide)⟩
theorem placeAlong {t : Tp3} {path : List St3} {n m : Int} (hm : 0 ≤ m) (hm2 : m ≤ 1099511627776) (ho : (offE t path n).2 = 0) (hl : lenE t path = 0) (hs : n + m ≤ sumT t path) : ((walkE t (offE t path n).1 m).2 = 140) ∨ ((walkE t (offE t path n).1 m).2 = 0 ∧ (offE t path (n + m)).2 = 0 ∧ (offE t path (n + m)).1 = (walkE t (offE t path n).1 m).1) := by
  have hc : checkE t = 0 := by
    unfold offE at ho
    split at ho
    · assumption
    · exact absurd ho (show ¬ (1 : Int) = 0 by decide)
  have hn : 0 ≤ n ∧ n ≤ sumT t path := by
    unfold offE at ho
    rw [if_pos hc, if_pos hl] at ho
    split at ho
    · assumption
    · exact absurd ho (show ¬ (1 : Int) = 0 by decide)
  have e1 : offE t path n = (offGo t path n, 0) := by
    unfold offE
    rw [if_pos hc, if_pos hl, if_pos hn]
  have e2 : offE t path (n + m) = (offGo t path (n + m), 0) := by
    unfold offE
    rw [if_pos hc, if_pos hl, if_pos ⟨by omega, hs⟩]
  obtain ⟨h1, h2, h3, h4⟩ := len_ok hl
  have ht := (check_routes hc).1
  have hr := off_right ht h3 hn.1 hn.2 h1
  rw [e1, e2]
  unfold walkE
  rw [if_pos ⟨right_iff.2 ⟨hc, hr⟩, hm, hm2⟩]
  rcases along ht h3 h4 hn.1 hm hs h1 h2 with h | h
  · rw [h]
    exact .inr ⟨rfl, rfl, rfl⟩
  · exact .inl h
end Go.Proofs.Yteioefgckigbcaa
