/-
  topo, pure: tracks as plain lists; what may follow, the way back, how long; what is wrong with a track.
-/
import Derived.Test.YteioefgckigbcaaKit11

namespace Go.Proofs.Yteioefgckigbcaa

structure St3 where
  edge : Int
  rev : Bool
structure Jt3 where
  a : Int × Int
  b : Int × Int
structure Bl3 where
  id : Int
  edge : Int
  at_ : Int
structure Rt3 where
  id : Int
  path : List St3
  gap : Int
  timer : Int
structure Tp3 where
  edges : List Int
  joints : List Jt3
  bals : List Bl3
  routes : List Rt3
def eqS (a b : St3) : Bool := (a.edge == b.edge) && (a.rev == b.rev)
theorem eqS_iff (a b : St3) : eqS a b = true ↔ a = b := by
  obtain ⟨x, y⟩ := a
  obtain ⟨z, u⟩ := b
  unfold eqS
  simp
def eqE (a b : Int × Int) : Bool := (a.1 == b.1) && (a.2 == b.2)
theorem eqE_iff (a b : Int × Int) : eqE a b = true ↔ a = b := by
  obtain ⟨x, y⟩ := a
  obtain ⟨z, u⟩ := b
  unfold eqE
  simp
theorem eqE_comm (a b : Int × Int) : eqE a b = eqE b a := by
  rw [Bool.eq_iff_iff, eqE_iff, eqE_iff]
  exact eq_comm
def revS (s : St3) : St3 := ⟨s.edge, !s.rev⟩
def inE (s : St3) : Int × Int := (s.edge, if s.rev = true then 1 else 0)
def outE (s : St3) : Int × Int := (s.edge, if s.rev = true then 0 else 1)
theorem out_rev (s : St3) : outE (revS s) = inE s := by
  obtain ⟨e, r⟩ := s
  cases r <;> rfl
theorem in_rev (s : St3) : inE (revS s) = outE s := by
  obtain ⟨e, r⟩ := s
  cases r <;> rfl
theorem rev_rev (s : St3) : revS (revS s) = s := by
  obtain ⟨e, r⟩ := s
  cases r <;> rfl
def joinJ (a b : Int × Int) (j : Jt3) : Bool := (eqE j.a a && eqE j.b b) || (eqE j.a b && eqE j.b a)
def joinB (l : List Jt3) (a b : Int × Int) : Bool := l.any (joinJ a b)
theorem joinB_comm (l : List Jt3) (a b : Int × Int) : joinB l a b = joinB l b a := by
  unfold joinB
  congr 1
  funext j
  unfold joinJ
  exact Bool.or_comm ..
def edgeB (t : Tp3) (n : Int) : Bool := decide (0 ≤ n) && decide (n < t.edges.length)
def endB (t : Tp3) (x : Int × Int) : Bool := edgeB t x.1 && (x.2 == 0 || x.2 == 1)
def mayT (t : Tp3) (a b : St3) : Bool := joinB t.joints (outE a) (inE b)
theorem may_rev (t : Tp3) (a b : St3) : mayT t (revS b) (revS a) = mayT t a b := by
  unfold mayT
  rw [out_rev, in_rev, joinB_comm]
def stepsAt (t : Tp3) (s : St3) (i : Nat) : List St3 := (if mayT t s ⟨i, false⟩ = true then [⟨i, false⟩] else []) ++ (if mayT t s ⟨i, true⟩ = true then [⟨i, true⟩] else [])
def afterL (t : Tp3) (s : St3) : List St3 := if edgeB t s.edge = true then (List.range t.edges.length).flatMap (stepsAt t s) else []
theorem steps_mem {t : Tp3} {s b : St3} {i : Nat} : b ∈ stepsAt t s i ↔ b.edge = i ∧ mayT t s b = true := by
  obtain ⟨e, r⟩ := b
  unfold stepsAt
  constructor
  · intro h
    rcases List.mem_append.1 h with h | h <;> (split at h <;> simp at h)
    all_goals
      obtain ⟨rfl, rfl⟩ := h
      exact ⟨rfl, by assumption⟩
  · rintro ⟨h1, h2⟩
    simp only at h1
    subst h1
    cases r
    · exact List.mem_append.2 (.inl (by rw [if_pos h2]; simp))
    · exact List.mem_append.2 (.inr (by rw [if_pos h2]; simp))
theorem after_mem {t : Tp3} {s b : St3} : b ∈ afterL t s ↔ edgeB t s.edge = true ∧ edgeB t b.edge = true ∧ mayT t s b = true := by
  unfold afterL
  by_cases h : edgeB t s.edge = true
  · rw [if_pos h, List.mem_flatMap]
    constructor
    · rintro ⟨i, hi, hb⟩
      obtain ⟨h1, h2⟩ := steps_mem.1 hb
      refine ⟨h, ?_, h2⟩
      unfold edgeB
      rw [h1]
      simpa using hi
    · rintro ⟨_, h1, h2⟩
      unfold edgeB at h1
      simp only [Bool.and_eq_true, decide_eq_true_eq] at h1
      exact ⟨b.edge.toNat, by simp; omega, steps_mem.2 ⟨by omega, h2⟩⟩
  · rw [if_neg h]
    simp [h]
def amongB (l : List St3) (s : St3) : Bool := l.any fun x => eqS x s
theorem among_iff (l : List St3) (s : St3) : amongB l s = true ↔ s ∈ l := by
  unfold amongB
  rw [List.any_eq_true]
  constructor
  · rintro ⟨x, hx, e⟩
    rw [eqS_iff] at e
    exact e ▸ hx
  · intro h
    exact ⟨s, h, (eqS_iff s s).2 rfl⟩
theorem among_back {t : Tp3} {a b : St3} (ha : edgeB t a.edge = true) (hb : edgeB t b.edge = true) : amongB (afterL t a) b = amongB (afterL t (revS b)) (revS a) := by
  rw [Bool.eq_iff_iff, among_iff, among_iff, after_mem, after_mem, may_rev]
  exact ⟨fun h => ⟨hb, ha, h.2.2⟩, fun h => ⟨ha, hb, h.2.2⟩⟩
def backL (path : List St3) : List St3 := (path.map revS).reverse
def wayB (t : Tp3) : List St3 → Bool
  | a :: b :: r => mayT t a b && wayB t (b :: r)
  | _ => true
theorem way_at {t : Tp3} {path : List St3} : wayB t path = true ↔ ∀ i a b, path[i]? = some a → path[i + 1]? = some b → mayT t a b = true := by
  induction path with
  | nil => simp [wayB]
  | cons x r ih =>
    cases r with
    | nil => simp [wayB]
    | cons y r =>
      rw [wayB, Bool.and_eq_true, ih]
      constructor
      · rintro ⟨h1, h2⟩ i a b ha hb
        cases i with
        | zero =>
          simp at ha hb
          subst ha hb
          exact h1
        | succ j => exact h2 j a b (by simpa using ha) (by simpa using hb)
      · intro h
        exact ⟨h 0 x y rfl rfl, fun i a b ha hb => h (i + 1) a b (by simpa using ha) (by simpa using hb)⟩
def lenAt (t : Tp3) (s : St3) : Int := t.edges.getD s.edge.toNat 0
def sumT (t : Tp3) : List St3 → Int
  | [] => 0
  | s :: r => lenAt t s + sumT t r
theorem sum_app (t : Tp3) (a b : List St3) : sumT t (a ++ b) = sumT t a + sumT t b := by
  induction a with
  | nil => simp [sumT]
  | cons x r ih =>
    show lenAt t x + sumT t (r ++ b) = lenAt t x + sumT t r + sumT t b
    rw [ih, Int.add_assoc]
def edgesOk (t : Tp3) : Bool := t.edges.all fun e => decide (1 ≤ e) && decide (e ≤ 1000000)
theorem lenAt_ok {t : Tp3} (h : edgesOk t = true) {s : St3} (hs : edgeB t s.edge = true) : 1 ≤ lenAt t s ∧ lenAt t s ≤ 1000000 := by
  unfold edgesOk at h
  rw [List.all_eq_true] at h
  unfold edgeB at hs
  simp only [Bool.and_eq_true, decide_eq_true_eq] at hs
  have hl : s.edge.toNat < t.edges.length := by omega
  have := h _ (List.getElem_mem hl)
  unfold lenAt
  rw [List.getD_eq_getElem?_getD, List.getElem?_eq_getElem hl]
  simpa using this
theorem sum_ok {t : Tp3} (h : edgesOk t = true) {path : List St3} (hp : ∀ s ∈ path, edgeB t s.edge = true) : (path.length : Int) ≤ sumT t path ∧ sumT t path ≤ path.length * 1000000 := by
  induction path with
  | nil => simp [sumT]
  | cons x r ih =>
    have h1 := lenAt_ok h (hp x (List.mem_cons_self ..))
    have h2 := ih fun s hs => hp s (List.mem_cons_of_mem _ hs)
    show (((x :: r).length : Nat) : Int) ≤ lenAt t x + sumT t r ∧ lenAt t x + sumT t r ≤ ((x :: r).length : Nat) * 1000000
    rw [List.length_cons]
    omega
def lenE (t : Tp3) (path : List St3) : Int :=
  if path.length = 0 ∨ 40 < path.length then 1 else if (path.all fun s => edgeB t s.edge) = true then (if wayB t path = true then 0 else 141) else 1
def lenN (t : Tp3) (path : List St3) : Int := if lenE t path = 0 then sumT t path else 0
def balF (t : Tp3) (id : Int) : Option Bl3 := t.bals.find? fun b => b.id == id
def routeF (t : Tp3) (id : Int) : Option Rt3 := t.routes.find? fun r => r.id == id
/-- The first of f 0 .. f (n - 1) that is not nought. -/
def firstE (f : Nat → Int) : Nat → Int
  | 0 => 0
  | n + 1 => if firstE f n = 0 then f n else firstE f n
theorem first_zero {f : Nat → Int} {n : Nat} : firstE f n = 0 ↔ ∀ i, i < n → f i = 0 := by
  induction n with
  | zero => simp [firstE]
  | succ n ih =>
    rw [firstE]
    constructor
    · intro h i hi
      split at h
      · rename_i h0
        by_cases e : i = n
        · rw [e]; exact h
        · exact ih.1 h0 i (by omega)
      · rename_i h0; exact absurd h h0
    · intro h
      rw [if_pos (ih.2 fun i hi => h i (by omega))]
      exact h n (by omega)
theorem first_at {f : Nat → Int} {n i : Nat} (hi : i < n) (h : firstE f i = 0) (hf : f i ≠ 0) : firstE f n = f i := by
  induction n with
  | zero => omega
  | succ n ih =>
    rw [firstE]
    by_cases e : i = n
    · subst e
      rw [if_pos h]
    · rw [ih (by omega), if_neg hf]
def jointE (t : Tp3) (i : Nat) : Int :=
  match t.joints[i]? with
  | none => 0
  | some j => if (endB t j.a && endB t j.b && !eqE j.a j.b) = true then (if joinB (t.joints.take i) j.a j.b = true then 5 else 0) else 1
def balE (t : Tp3) (i : Nat) : Int :=
  match t.bals[i]? with
  | none => 0
  | some b => if (decide (0 ≤ b.id) && decide (b.id ≤ 16777214) && edgeB t b.edge && decide (0 ≤ b.at_) && decide (b.at_ ≤ t.edges.getD b.edge.toNat 0)) = true then (if ((t.bals.take i).any fun x => x.id == b.id) = true then 5 else 0) else 1
def twiceB (path : List St3) : Bool := decide (¬ (path.map (·.edge)).Nodup)
def hasBal (t : Tp3) (s : St3) : Bool := t.bals.any fun b => b.edge == s.edge
def routeE (t : Tp3) (r : Rt3) : Int :=
  if r.id < 1 ∨ r.path.length = 0 ∨ 8 < r.path.length then 1
  else if ((r.path.all fun s => edgeB t s.edge) && !twiceB r.path) = true then
    (if lenE t r.path = 0 then
      (if r.gap < 0 ∨ lenN t r.path - 1 < r.gap ∨ r.timer < 1 ∨ 1000 < r.timer then 1 else if (r.path.all (hasBal t)) = true then 0 else 4)
     else lenE t r.path)
  else 1
def routeAt (t : Tp3) (i : Nat) : Int :=
  match t.routes[i]? with
  | none => 0
  | some r => if routeE t r = 0 then (if ((t.routes.take i).any fun x => x.id == r.id) = true then 5 else 0) else routeE t r
def longB (t : Tp3) : Bool := decide (40 < t.edges.length) || (decide (80 < t.joints.length) || (decide (80 < t.bals.length) || decide (30 < t.routes.length)))
def checkE (t : Tp3) : Int :=
  if longB t = true then 2 else if edgesOk t = true then
    (if firstE (jointE t) t.joints.length = 0 then
      (if firstE (balE t) t.bals.length = 0 then firstE (routeAt t) t.routes.length else firstE (balE t) t.bals.length)
     else firstE (jointE t) t.joints.length)
  else 1
def lightT (t : Tp3) : Bool := decide (t.edges.length ≤ 100) && (decide (t.joints.length ≤ 100) && (decide (t.bals.length ≤ 100) && (decide (t.routes.length ≤ 100) && t.routes.all fun r => decide (r.path.length ≤ 100))))
theorem check_routes {t : Tp3} (h : checkE t = 0) : edgesOk t = true ∧ longB t = false ∧ ∀ i, i < t.routes.length → routeAt t i = 0 := by
  unfold checkE at h
  by_cases h1 : longB t = true
  · rw [if_pos h1] at h; exact absurd h (by decide)
  · rw [if_neg h1] at h
    by_cases h2 : edgesOk t = true
    · rw [if_pos h2] at h
      by_cases h3 : firstE (jointE t) t.joints.length = 0
      · rw [if_pos h3] at h
        by_cases h4 : firstE (balE t) t.bals.length = 0
        · rw [if_pos h4] at h
          exact ⟨h2, by simpa using h1, first_zero.1 h⟩
        · rw [if_neg h4] at h; exact absurd h h4
      · rw [if_neg h3] at h; exact absurd h h3
    · rw [if_neg h2] at h; exact absurd h (by decide)
theorem route_ok {t : Tp3} {r : Rt3} (h : routeE t r = 0) : 1 ≤ r.id ∧ 1 ≤ r.path.length ∧ r.path.length ≤ 8 ∧ (∀ s ∈ r.path, edgeB t s.edge = true) ∧ (r.path.map (·.edge)).Nodup ∧ lenE t r.path = 0 ∧ 0 ≤ r.gap ∧ r.gap < lenN t r.path ∧ ∀ s ∈ r.path, hasBal t s = true := by
  unfold routeE at h
  split at h
  · exact absurd h (by decide)
  · rename_i h1
    split at h
    · rename_i h2
      simp only [Bool.and_eq_true, List.all_eq_true, twiceB, Bool.not_eq_true', decide_eq_false_iff_not, Decidable.not_not] at h2
      split at h
      · rename_i h3
        split at h
        · exact absurd h (by decide)
        · rename_i h4
          split at h
          · rename_i h5
            rw [List.all_eq_true] at h5
            exact ⟨by omega, by omega, by omega, h2.1, h2.2, h3, by omega, by omega, h5⟩
          · exact absurd h (by decide)
      · rename_i h3; exact absurd h h3
    · exact absurd h (by decide)
theorem find_first {α : Type} {p : α → Bool} {l : List α} {i : Nat} {x : α} (hx : l[i]? = some x) (hp : p x = true) (hn : ((l.take i).any p) = false) : l.find? p = some x := by
  induction l generalizing i with
  | nil => simp at hx
  | cons y r ih =>
    cases i with
    | zero =>
      simp at hx
      subst hx
      exact List.find?_cons_of_pos hp
    | succ j =>
      rw [List.take_succ_cons, List.any_cons, Bool.or_eq_false_iff] at hn
      rw [List.find?_cons_of_neg (by rw [hn.1]; decide)]
      exact ih (by simpa using hx) hn.2
theorem route_find {t : Tp3} (h : ∀ i, i < t.routes.length → routeAt t i = 0) {i : Nat} {r : Rt3} (hr : t.routes[i]? = some r) : routeE t r = 0 ∧ routeF t r.id = some r := by
  have h0 := h i (List.getElem?_eq_some_iff.1 hr).1
  unfold routeAt at h0
  rw [hr] at h0
  simp only at h0
  by_cases he : routeE t r = 0
  · rw [if_pos he] at h0
    refine ⟨he, find_first hr (by simp) ?_⟩
    by_cases ht : ((t.routes.take i).any fun x => x.id == r.id) = true
    · rw [if_pos ht] at h0; exact absurd h0 (by decide)
    · simpa using ht
  · rw [if_neg he] at h0; exact absurd h0 he
end Go.Proofs.Yteioefgckigbcaa
