/-
  lock, pure: interlockings as plain records: which may be; set and freed; that two trains' locks have nothing in common.
-/
import Derived.Test.YteioefgckigbcaaSnTot

namespace Go.Proofs.Yteioefgckigbcaa

structure Lc3 where
  route : Int
  train : Int
  no : Int
structure It3 where
  locks : List Lc3
  next : Int
def extL (t : Tp3) (route : Int) : List Sn3 :=
  match routeF t route with
  | none => []
  | some r => (overE t r.path 0 (sumT t r.path)).1
theorem ext_normal (t : Tp3) (route : Int) : normP (extL t route) := by
  unfold extL
  cases routeF t route with
  | none => exact nil_normal
  | some r => exact over_normal t r.path 0 _
def trainB (n : Int) : Bool := decide (0 ≤ n) && decide (n ≤ 16777215)
def thereB (l : List Lc3) (route : Int) : Bool := l.any fun k => k.route == route
def metK (t : Tp3) (route train : Int) (k : Lc3) : Bool := !(k.train == train) && meetsL (extL t route) (extL t k.route)
def metB (t : Tp3) (l : List Lc3) (route train : Int) : Bool := l.any (metK t route train)
def lastB (l : List Lc3) (n : Int) : Bool :=
  match l.getLast? with
  | none => true
  | some p => decide (p.no < n)
def okK (t : Tp3) (next : Int) (ahead : List Lc3) (k : Lc3) : Bool :=
  (routeF t k.route).isSome && (trainB k.train && (decide (1 ≤ k.no) && (decide (k.no < next) && (lastB ahead k.no && (!thereB ahead k.route && !metB t ahead k.route k.train)))))
def mayGo (t : Tp3) (next : Int) : List Lc3 → List Lc3 → Bool
  | _, [] => true
  | ahead, k :: r => okK t next ahead k && mayGo t next (ahead ++ [k]) r
def mayB (t : Tp3) (x : It3) : Bool := decide (checkE t = 0) && (decide (x.locks.length ≤ 24) && (decide (1 ≤ x.next) && (decide (x.next ≤ 1099511627776) && mayGo t x.next [] x.locks)))
def zeroI : It3 := ⟨[], 0⟩
def setE (t : Tp3) (x : It3) (route train : Int) : It3 × Int × Int :=
  if (mayB t x && trainB train) = false then (zeroI, 0, 1)
  else if (routeF t route).isSome = false then (zeroI, 0, 4)
  else if thereB x.locks route = true then (zeroI, 0, 5)
  else if metB t x.locks route train = true then (zeroI, 0, 160)
  else if x.locks.length = 24 ∨ x.next = 1099511627776 then (zeroI, 0, 3)
  else (⟨x.locks ++ [⟨route, train, x.next⟩], x.next + 1⟩, x.next, 0)
def keepN (n : Int) (k : Lc3) : Bool := !(k.no == n)
def freeE (t : Tp3) (x : It3) (no : Int) : It3 × Int :=
  if mayB t x = false then (zeroI, 1)
  else if (x.locks.filter (keepN no)).length = x.locks.length then (zeroI, 4)
  else (⟨x.locks.filter (keepN no), x.next⟩, 0)
def ofL (l : List Lc3) (train : Int) : List Lc3 := l.filter fun k => k.train == train
def lockedL (t : Tp3) (l : List Lc3) (train : Int) : List Sn3 := if checkE t = 0 then normL ((ofL l train).flatMap fun k => extL t k.route) else []
def eqK (a b : Lc3) : Bool := (a.route == b.route) && ((a.train == b.train) && (a.no == b.no))
theorem eqK_iff (a b : Lc3) : eqK a b = true ↔ a = b := by
  obtain ⟨x, y, z⟩ := a
  obtain ⟨u, v, w⟩ := b
  unfold eqK
  simp
def sameK : List Lc3 → List Lc3 → Bool
  | [], [] => true
  | x :: r, y :: q => eqK x y && sameK r q
  | _, _ => false
theorem sameK_iff (a b : List Lc3) : sameK a b = true ↔ a = b := by
  induction a generalizing b with
  | nil => cases b <;> simp [sameK]
  | cons x r ih =>
    cases b with
    | nil => simp [sameK]
    | cons y q => simp only [sameK, Bool.and_eq_true, eqK_iff, ih, List.cons.injEq]
def sameI (a b : It3) : Bool := sameK a.locks b.locks && (a.next == b.next)
theorem sameI_iff (a b : It3) : sameI a b = true ↔ a = b := by
  obtain ⟨x, y⟩ := a
  obtain ⟨u, v⟩ := b
  unfold sameI
  rw [Bool.and_eq_true, sameK_iff, beq_iff_eq]
  simp

/-! What may be, said once and for all pairs. -/
theorem meets_comm (a b : List Sn3) : meetsL a b = meetsL b a := by
  rw [Bool.eq_iff_iff, meets_iff, meets_iff]
  constructor <;> (rintro ⟨e, x, h1, h2⟩; exact ⟨e, x, h2, h1⟩)
def pairP (t : Tp3) (p q : Lc3) : Prop := p.no < q.no ∧ p.route ≠ q.route ∧ (p.train ≠ q.train → meetsL (extL t q.route) (extL t p.route) = false)
def oneP (t : Tp3) (next : Int) (k : Lc3) : Prop := (routeF t k.route).isSome = true ∧ trainB k.train = true ∧ 1 ≤ k.no ∧ k.no < next
theorem there_false {l : List Lc3} {route : Int} : thereB l route = false ↔ ∀ p ∈ l, p.route ≠ route := by
  unfold thereB
  rw [List.any_eq_false]
  simp
theorem met_false {t : Tp3} {l : List Lc3} {route train : Int} : metB t l route train = false ↔ ∀ p ∈ l, p.train ≠ train → meetsL (extL t route) (extL t p.route) = false := by
  unfold metB
  rw [List.any_eq_false]
  unfold metK
  refine forall_congr' fun p => forall_congr' fun _ => ?_
  by_cases h : p.train = train
  · simp [h]
  · simp [h]
theorem last_iff {l : List Lc3} {n : Int} (h : l.Pairwise fun p q => p.no < q.no) : lastB l n = true ↔ ∀ p ∈ l, p.no < n := by
  unfold lastB
  cases hq : l.getLast? with
  | none =>
    rw [List.getLast?_eq_none_iff] at hq
    subst hq
    simp
  | some q =>
    obtain ⟨m, rfl⟩ := List.getLast?_eq_some_iff.1 hq
    rw [List.pairwise_append] at h
    simp only [decide_eq_true_eq]
    constructor
    · intro hn p hp
      rcases List.mem_append.1 hp with hp | hp
      · exact Int.lt_trans (h.2.2 p hp q (by simp)) hn
      · simp at hp
        subst hp
        exact hn
    · intro hn
      exact hn q (by simp)
theorem mayGo_iff {t : Tp3} {next : Int} {ahead l : List Lc3} (ha : ahead.Pairwise (pairP t)) : mayGo t next ahead l = true ↔ (∀ k ∈ l, oneP t next k) ∧ (ahead ++ l).Pairwise (pairP t) := by
  induction l generalizing ahead with
  | nil => simp [mayGo, ha]
  | cons k r ih =>
    have hn : ahead.Pairwise fun p q => p.no < q.no := ha.imp fun h => h.1
    unfold mayGo okK
    simp only [Bool.and_eq_true, Bool.not_eq_true', decide_eq_true_eq]
    rw [last_iff hn, there_false, met_false]
    have e : ahead ++ k :: r = ahead ++ [k] ++ r := by simp
    constructor
    · rintro ⟨⟨h1, h2, h3, h4, h5, h6, h7⟩, h8⟩
      have hk : (ahead ++ [k]).Pairwise (pairP t) := by
        rw [List.pairwise_append]
        refine ⟨ha, List.pairwise_singleton _ _, fun p hp q hq => ?_⟩
        simp at hq
        subst hq
        exact ⟨h5 p hp, h6 p hp, h7 p hp⟩
      obtain ⟨h9, h10⟩ := (ih hk).1 h8
      refine ⟨fun q hq => ?_, by rw [e]; exact h10⟩
      rcases List.mem_cons.1 hq with rfl | hq
      · exact ⟨h1, h2, h3, h4⟩
      · exact h9 q hq
    · rintro ⟨h1, h2⟩
      rw [e] at h2
      have hk := (List.pairwise_append.1 h2).1
      have h3 := h1 k (List.mem_cons_self ..)
      rw [List.pairwise_append] at hk
      have h4 : ∀ p ∈ ahead, pairP t p k := fun p hp => hk.2.2 p hp k (by simp)
      exact ⟨⟨h3.1, h3.2.1, h3.2.2.1, h3.2.2.2, fun p hp => (h4 p hp).1, fun p hp => (h4 p hp).2.1, fun p hp => (h4 p hp).2.2⟩, (ih (List.pairwise_append.1 h2).1).2 ⟨fun q hq => h1 q (List.mem_cons_of_mem _ hq), h2⟩⟩
structure MayP (t : Tp3) (x : It3) : Prop where
  check : checkE t = 0
  few : x.locks.length ≤ 24
  lo : 1 ≤ x.next
  hi : x.next ≤ 1099511627776
  one : ∀ k ∈ x.locks, oneP t x.next k
  pair : x.locks.Pairwise (pairP t)
theorem may_iff {t : Tp3} {x : It3} : mayB t x = true ↔ MayP t x := by
  unfold mayB
  simp only [Bool.and_eq_true, decide_eq_true_eq]
  rw [mayGo_iff .nil, List.nil_append]
  exact ⟨fun ⟨h1, h2, h3, h4, h5, h6⟩ => ⟨h1, h2, h3, h4, h5, h6⟩, fun h => ⟨h.check, h.few, h.lo, h.hi, h.one, h.pair⟩⟩
theorem set_may {t : Tp3} {x : It3} {route train : Int} (h : (setE t x route train).2.2 = 0) : setE t x route train = (⟨x.locks ++ [⟨route, train, x.next⟩], x.next + 1⟩, x.next, 0) ∧ mayB t ⟨x.locks ++ [⟨route, train, x.next⟩], x.next + 1⟩ = true ∧ mayB t x = true ∧ thereB x.locks route = false := by
  unfold setE at h ⊢
  by_cases h1 : (mayB t x && trainB train) = false
  · rw [if_pos h1] at h; cases h
  rw [if_neg h1] at h ⊢
  by_cases h2 : (routeF t route).isSome = false
  · rw [if_pos h2] at h; cases h
  rw [if_neg h2] at h ⊢
  by_cases h3 : thereB x.locks route = true
  · rw [if_pos h3] at h; cases h
  rw [if_neg h3] at h ⊢
  by_cases h4 : metB t x.locks route train = true
  · rw [if_pos h4] at h; cases h
  rw [if_neg h4] at h ⊢
  by_cases h5 : x.locks.length = 24 ∨ x.next = 1099511627776
  · rw [if_pos h5] at h; cases h
  rw [if_neg h5]
  simp only [Bool.not_eq_false, Bool.and_eq_true] at h1
  have hm := may_iff.1 h1.1
  have h3' : thereB x.locks route = false := by simpa using h3
  have h4' : metB t x.locks route train = false := by simpa using h4
  refine ⟨rfl, may_iff.2 ⟨hm.check, ?_, ?_, ?_, fun k hk => ?_, ?_⟩, h1.1, h3'⟩
  · have := hm.few
    simp
    omega
  · have := hm.lo
    dsimp only
    omega
  · have := hm.hi
    dsimp only
    omega
  · rcases List.mem_append.1 hk with hk | hk
    · have := hm.one k hk
      exact ⟨this.1, this.2.1, this.2.2.1, by have := this.2.2.2; dsimp only; omega⟩
    · simp at hk
      subst hk
      exact ⟨(by cases hq : (routeF t route).isSome with | true => rfl | false => exact absurd hq h2), h1.2, hm.lo, by dsimp only; omega⟩
  · rw [List.pairwise_append]
    refine ⟨hm.pair, List.pairwise_singleton _ _, fun p hp q hq => ?_⟩
    simp at hq
    subst hq
    exact ⟨(hm.one p hp).2.2.2, there_false.1 h3' p hp, met_false.1 h4' p hp⟩
theorem free_may {t : Tp3} {x : It3} {no : Int} (h : (freeE t x no).2 = 0) : freeE t x no = (⟨x.locks.filter (keepN no), x.next⟩, 0) ∧ mayB t ⟨x.locks.filter (keepN no), x.next⟩ = true ∧ mayB t x = true := by
  unfold freeE at h ⊢
  by_cases h1 : mayB t x = false
  · rw [if_pos h1] at h; cases h
  rw [if_neg h1] at h ⊢
  by_cases h2 : (x.locks.filter (keepN no)).length = x.locks.length
  · rw [if_pos h2] at h; cases h
  rw [if_neg h2]
  have h1' : mayB t x = true := by simpa using h1
  have hm := may_iff.1 h1'
  refine ⟨rfl, may_iff.2 ⟨hm.check, Nat.le_trans (List.length_filter_le _ _) hm.few, hm.lo, hm.hi, fun k hk => hm.one k (List.mem_filter.1 hk).1, hm.pair.filter _⟩, h1'⟩
/-- What is locked for two trains has nothing in common. -/
theorem locked_apart {t : Tp3} {x : It3} {a b : Int} (h : mayB t x = true) (hab : a ≠ b) : meetsL (lockedL t x.locks a) (lockedL t x.locks b) = false := by
  have hm := may_iff.1 h
  cases hq : meetsL (lockedL t x.locks a) (lockedL t x.locks b) with
  | false => rfl
  | true =>
    obtain ⟨e, y, h1, h2⟩ := meets_iff.1 hq
    unfold lockedL at h1 h2
    rw [if_pos hm.check, norm_has] at h1 h2
    have key : ∀ c, hasL ((ofL x.locks c).flatMap fun k => extL t k.route) e y = true → ∃ k ∈ x.locks, k.train = c ∧ hasL (extL t k.route) e y = true := fun c hc => by
      obtain ⟨s, hs, hh⟩ := hasL_iff.1 hc
      obtain ⟨k, hk, hks⟩ := List.mem_flatMap.1 hs
      unfold ofL at hk
      rw [List.mem_filter] at hk
      exact ⟨k, hk.1, by simpa using hk.2, hasL_iff.2 ⟨s, hks, hh⟩⟩
    obtain ⟨p, hp, hpa, hpe⟩ := key a h1
    obtain ⟨q, hq2, hqb, hqe⟩ := key b h2
    obtain ⟨i, hi, rfl⟩ := List.getElem_of_mem hp
    obtain ⟨j, hj, rfl⟩ := List.getElem_of_mem hq2
    have hpw := List.pairwise_iff_getElem.1 hm.pair
    rcases Nat.lt_trichotomy i j with hij | hij | hij
    · have h3 := (hpw i j hi hj hij).2.2 (by omega)
      rw [meets_iff.2 ⟨e, y, hqe, hpe⟩] at h3
      cases h3
    · subst hij
      omega
    · have h3 := (hpw j i hj hi hij).2.2 (by omega)
      rw [meets_iff.2 ⟨e, y, hpe, hqe⟩] at h3
      cases h3

/-! Calls in a row. -/
structure Op4 where
  free : Bool
  route : Int
  train : Int
  no : Int
def stepI (t : Tp3) (x : It3) (o : Op4) : It3 :=
  if o.free = true then (if (freeE t x o.no).2 = 0 then (freeE t x o.no).1 else x) else (if (setE t x o.route o.train).2.2 = 0 then (setE t x o.route o.train).1 else x)
def playI (t : Tp3) (x : It3) (l : List Op4) : It3 := l.foldl (stepI t) x
theorem playI_snoc (t : Tp3) (x : It3) (l : List Op4) (o : Op4) : playI t x (l ++ [o]) = stepI t (playI t x l) o := by
  unfold playI
  rw [List.foldl_append]
  rfl
theorem step_may {t : Tp3} {x : It3} (o : Op4) (h : mayB t x = true) : mayB t (stepI t x o) = true := by
  unfold stepI
  split
  · split
    · rename_i h2
      have := free_may h2
      rw [this.1]
      exact this.2.1
    · exact h
  · split
    · rename_i h2
      have := set_may h2
      rw [this.1]
      exact this.2.1
    · exact h
theorem play_may {t : Tp3} {x : It3} (l : List Op4) (h : mayB t x = true) : mayB t (playI t x l) = true := by
  induction l generalizing x with
  | nil => exact h
  | cons o r ih => exact ih (step_may o h)

/-! A lock stays till it is freed by its number. -/
structure HasK (t : Tp3) (k : Lc3) (x : It3) : Prop where
  may : mayB t x = true
  mem : k ∈ x.locks
theorem has_set {t : Tp3} {x : It3} {route train : Int} (h : (setE t x route train).2.2 = 0) : HasK t ⟨route, train, x.next⟩ (setE t x route train).1 := by
  have := set_may h
  rw [this.1]
  exact ⟨this.2.1, by simp⟩
theorem HasK.set {t : Tp3} {x : It3} {k : Lc3} (hk : HasK t k x) {route train : Int} (h : (setE t x route train).2.2 = 0) : HasK t k (setE t x route train).1 ∧ k.no < (setE t x route train).2.1 ∧ route ≠ k.route := by
  have hs := set_may h
  rw [hs.1]
  exact ⟨⟨hs.2.1, List.mem_append_left _ hk.mem⟩, ((may_iff.1 hk.may).one k hk.mem).2.2.2, fun e => there_false.1 hs.2.2.2 k hk.mem e.symm⟩
theorem HasK.free {t : Tp3} {x : It3} {k : Lc3} (hk : HasK t k x) {no : Int} (hn : no ≠ k.no) (h : (freeE t x no).2 = 0) : HasK t k (freeE t x no).1 := by
  have hs := free_may h
  rw [hs.1]
  refine ⟨hs.2.1, List.mem_filter.2 ⟨hk.mem, ?_⟩⟩
  unfold keepN
  simp
  exact fun e => hn e.symm
theorem filter_one {t : Tp3} {l : List Lc3} {k : Lc3} (hp : l.Pairwise (pairP t)) (hk : k ∈ l) : (l.filter (keepN k.no)).length + 1 = l.length := by
  induction l with
  | nil => cases hk
  | cons p r ih =>
    rw [List.pairwise_cons] at hp
    rcases List.mem_cons.1 hk with rfl | hk
    · have h1 : keepN k.no k = false := by simp [keepN]
      have h2 : r.filter (keepN k.no) = r := List.filter_eq_self.2 fun q hq => by
        have := (hp.1 q hq).1
        simp [keepN]
        omega
      rw [List.filter_cons, h1, h2]
      simp
    · have h1 : keepN k.no p = true := by
        have := (hp.1 k hk).1
        simp [keepN]
        omega
      rw [List.filter_cons, h1]
      simp only [if_true, List.length_cons]
      have := ih hp.2 hk
      omega
theorem HasK.gone {t : Tp3} {x : It3} {k : Lc3} (hk : HasK t k x) : (freeE t x k.no).2 = 0 ∧ (freeE t x k.no).1.locks.length + 1 = x.locks.length := by
  have hm := may_iff.1 hk.may
  have h1 := filter_one hm.pair hk.mem
  unfold freeE
  rw [hk.may, if_neg (by decide), if_neg (by omega)]
  exact ⟨rfl, h1⟩
end Go.Proofs.Yteioefgckigbcaa
