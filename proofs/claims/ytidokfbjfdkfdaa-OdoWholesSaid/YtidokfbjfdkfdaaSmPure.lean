/-
  The stable sort by merging in place: what swaps make of a row, as functions of places; when a row is in the strict order of keys and tags.
-/
import Derived.Sort.LotA
namespace Go.Proofs.Ytidokfbjfdkfdaa.Sm
open Go.Sort
variable {α : Type}

section view
/-- Two stretches exchanged. -/
def swF (f : Nat → α) (a b n : Nat) : Nat → α := fun t => if a ≤ t ∧ t < a + n then f (b + (t - a)) else if b ≤ t ∧ t < b + n then f (a + (t - b)) else f t
/-- A stretch a .. m .. b turned: what lay from m comes first. -/
def rotF (f : Nat → α) (a m b : Nat) : Nat → α := fun t => if a ≤ t ∧ t < a + (b - m) then f (m + (t - a)) else if a + (b - m) ≤ t ∧ t < b then f (a + (t - (a + (b - m)))) else f t

theorem rot_long (f : Nat → α) (m i j : Nat) (hi : i ≤ m) (h : j < i) (hj : 0 < j) : rotF (swF f (m - i) m j) (m - (i - j)) m (m + j) = rotF f (m - i) m (m + j) := by
  funext t
  simp only [rotF, swF]
  repeat' split
  all_goals first | (exfalso; omega) | (congr 1 <;> omega)
theorem rot_short (f : Nat → α) (m i j : Nat) (hi : i ≤ m) (h : i < j) (h0 : 0 < i) : rotF (swF f (m - i) (m + j - i) i) (m - i) m (m + (j - i)) = rotF f (m - i) m (m + j) := by
  funext t
  simp only [rotF, swF]
  repeat' split
  all_goals first | (exfalso; omega) | (congr 1 <;> omega)
theorem rot_even (f : Nat → α) (m i : Nat) (hi : i ≤ m) : swF f (m - i) m i = rotF f (m - i) m (m + i) := by
  funext t
  simp only [rotF, swF]
  repeat' split
  all_goals first | (exfalso; omega) | (congr 1 <;> omega)
theorem rot_none (f : Nat → α) {a m b : Nat} (ham : a ≤ m) (hmb : m ≤ b) (h : a = m ∨ m = b) : rotF f a m b = f := by
  funext t
  simp only [rotF]
  repeat' split
  all_goals first | rfl | (exfalso; omega) | (congr 1 <;> omega)
/-- One swap of a row of swaps. -/
theorem sw_step (f h : Nat → α) (a b n : Nat) (hab : a + (n + 1) ≤ b) (hh : ∀ t, h t = if t = b + n then swF f a b n (a + n) else if t = a + n then swF f a b n (b + n) else swF f a b n t) : h = swF f a b (n + 1) := by
  funext t
  rw [hh]
  simp only [swF]
  repeat' split
  all_goals first | (exfalso; omega) | (congr 1 <;> omega)
theorem sw_none (f : Nat → α) (a b : Nat) : swF f a b 0 = f := by
  funext t
  simp only [swF]
  rw [if_neg (by omega), if_neg (by omega)]
end view

section order
variable (K : α → Int) (T : α → Nat)
/-- The strict order: by keys, then by tags. -/
def R (x y : α) : Prop := K x < K y ∨ (K x = K y ∧ T x < T y)
def Srt (f : Nat → α) (a b : Nat) : Prop := ∀ i j, a ≤ i → i < j → j < b → R K T (f i) (f j)
def Tag (f : Nat → α) (a m b : Nat) : Prop := ∀ i j, a ≤ i → i < m → m ≤ j → j < b → T (f i) < T (f j)
variable {K T}

theorem Srt.keys {f : Nat → α} {a b : Nat} (h : Srt K T f a b) {i j : Nat} (hi : a ≤ i) (hij : i ≤ j) (hj : j < b) : K (f i) ≤ K (f j) := by
  rcases Nat.lt_or_eq_of_le hij with hlt | rfl
  · have := h i j hi hlt hj
    unfold R at this; omega
  · exact Int.le_refl _
theorem Srt.congr {f g : Nat → α} {a b : Nat} (h : Srt K T f a b) (e : ∀ t, a ≤ t → t < b → g t = f t) : Srt K T g a b := by
  intro i j hi hij hj
  rw [e i hi (by omega), e j (by omega) hj]
  exact h i j hi hij hj
theorem Srt.sub {f : Nat → α} {a b a' b' : Nat} (h : Srt K T f a b) (ha : a ≤ a') (hb : b' ≤ b) : Srt K T f a' b' := fun i j hi hij hj => h i j (by omega) hij (by omega)
theorem Srt.glue {f : Nat → α} {a m b : Nat} (h1 : Srt K T f a m) (h2 : Srt K T f m b) (h3 : ∀ i j, a ≤ i → i < m → m ≤ j → j < b → R K T (f i) (f j)) : Srt K T f a b := by
  intro i j hi hij hj
  by_cases h : j < m
  · exact h1 i j hi hij h
  · by_cases h' : m ≤ i
    · exact h2 i j h' hij hj
    · exact h3 i j hi (by omega) (by omega) hj

/-- One on the left: where it belongs (i), moved there. -/
def leftF (f : Nat → α) (a i : Nat) : Nat → α := fun t => if a ≤ t ∧ t + 1 < i then f (t + 1) else if t + 1 = i ∧ a ≤ t then f a else f t
theorem left_srt {f : Nat → α} {a b i : Nat} (h2 : Srt K T f (a + 1) b) (ht : Tag T f a (a + 1) b) (hi : a + 1 ≤ i) (hib : i ≤ b)
    (lo : ∀ h, a + 1 ≤ h → h < i → K (f h) < K (f a)) (hi2 : ∀ h, i ≤ h → h < b → ¬ K (f h) < K (f a)) : Srt K T (leftF f a i) a b := by
  intro p q hp hpq hq
  simp only [leftF]
  have hR : ∀ h, i ≤ h → h < b → R K T (f a) (f h) := by
    intro h h1 h3
    have := hi2 h h1 h3
    have := ht a h (Nat.le_refl _) (by omega) (by omega) h3
    unfold R; omega
  repeat' split
  · exact h2 _ _ (by omega) (by omega) (by omega)
  · exact .inl (lo _ (by omega) (by omega))
  · exact h2 _ _ (by omega) (by omega) (by omega)
  · exfalso; omega
  · exfalso; omega
  · exact hR _ (by omega) (by omega)
  · exfalso; omega
  · exfalso; omega
  · exact h2 _ _ (by omega) (by omega) (by omega)
theorem left_move (f h : Nat → α) (a k : Nat) (hk : a ≤ k) (hh : ∀ t, h t = if t = k + 1 then leftF f a (k + 1) k else if t = k then leftF f a (k + 1) (k + 1) else leftF f a (k + 1) t) : h = leftF f a (k + 2) := by
  funext t
  rw [hh]
  simp only [leftF, true_and]
  repeat' split
  all_goals first | rfl | (exfalso; omega) | (congr 1 <;> omega)
theorem left_none (f : Nat → α) (a : Nat) : leftF f a (a + 1) = f := by
  funext t
  simp only [leftF]
  repeat' split
  all_goals first | rfl | (exfalso; omega) | (congr 1 <;> omega)

/-- One on the right (at m): moved down to i. -/
def rightF (f : Nat → α) (i m : Nat) : Nat → α := fun t => if t = i ∧ i ≤ m then f m else if i < t ∧ t ≤ m then f (t - 1) else f t
theorem right_srt {f : Nat → α} {a m i : Nat} (h1 : Srt K T f a m) (ht : Tag T f a m (m + 1)) (hi : a ≤ i) (him : i ≤ m)
    (lo : ∀ h, a ≤ h → h < i → ¬ K (f m) < K (f h)) (hi2 : ∀ h, i ≤ h → h < m → K (f m) < K (f h)) : Srt K T (rightF f i m) a (m + 1) := by
  intro p q hp hpq hq
  simp only [rightF]
  have hR : ∀ h, a ≤ h → h < i → R K T (f h) (f m) := by
    intro h h1 h3
    have := lo h h1 h3
    have := ht h m h1 (by omega) (Nat.le_refl _) (by omega)
    unfold R; omega
  repeat' split
  · exfalso; omega
  · exact .inl (hi2 _ (by omega) (by omega))
  · exfalso; omega
  · exfalso; omega
  · exact h1 _ _ (by omega) (by omega) (by omega)
  · exfalso; omega
  · exact hR _ (by omega) (by omega)
  · exact h1 _ _ (by omega) (by omega) (by omega)
  · exact h1 _ _ (by omega) (by omega) (by omega)
theorem right_move (f h : Nat → α) (k m : Nat) (hk : k + 1 ≤ m) (hh : ∀ t, h t = if t = k then rightF f (k + 1) m (k + 1) else if t = k + 1 then rightF f (k + 1) m k else rightF f (k + 1) m t) : h = rightF f k m := by
  funext t
  rw [hh]
  simp only [rightF, true_and]
  repeat' split
  all_goals first | rfl | (exfalso; omega) | (congr 1 <;> omega)
theorem right_none (f : Nat → α) (m : Nat) : rightF f m m = f := by
  funext t
  simp only [rightF]
  repeat' split
  all_goals first | rfl | (exfalso; omega) | (congr 1 <;> omega)

/-- What the search in the two runs finds. -/
structure Cut (K : α → Int) (f : Nat → α) (a m b mid start : Nat) : Prop where
  hmid : (a + b) / 2 = mid
  lo1 : mid < m → mid + m - b ≤ start ∧ start ≤ mid
  lo2 : m ≤ mid → a ≤ start ∧ start ≤ m
  no : ∀ c, (mid < m → mid + m - b ≤ c) → (m ≤ mid → a ≤ c) → c < start → ¬ K (f (mid + m - 1 - c)) < K (f c)
  yes : ∀ c, start ≤ c → (mid < m → c < mid) → (m ≤ mid → c < m) → K (f (mid + m - 1 - c)) < K (f c)
variable {f : Nat → α} {a m b mid start : Nat}
theorem Cut.bounds (h : Cut K f a m b mid start) (ham : a < m) (hmb : m < b) : a ≤ start ∧ start ≤ mid ∧ start ≤ m ∧ m ≤ mid + m - start ∧ mid ≤ mid + m - start ∧ mid + m - start ≤ b ∧ a ≤ mid ∧ mid ≤ b := by
  have := h.hmid
  by_cases k : mid < m
  · have := h.lo1 k; omega
  · have := h.lo2 (by omega); omega
/-- After the turn: whatever lies below mid comes before whatever lies from mid. -/
theorem Cut.cross (h : Cut K f a m b mid start) (ham : a < m) (hmb : m < b) (h1 : Srt K T f a m) (h2 : Srt K T f m b) (ht : Tag T f a m b) :
    ∀ i j, a ≤ i → i < mid → mid ≤ j → j < b → R K T (rotF f start m (mid + m - start) i) (rotF f start m (mid + m - start) j) := by
  have hb := h.bounds ham hmb
  have hm := h.hmid
  have LR : ∀ t u, a ≤ t → t < start → mid + m - start ≤ u → u < b → R K T (f t) (f u) := by
    intro t u t1 t2 u1 u2
    have n := h.no (start - 1) (by intro k; have := h.lo1 k; omega) (by intro k; have := h.lo2 k; omega) (by omega)
    rw [show mid + m - 1 - (start - 1) = mid + m - start by omega] at n
    have k1 := h1.keys (i := t) (j := start - 1) t1 (by omega) (by omega)
    have k2 := h2.keys (i := mid + m - start) (j := u) (by omega) u1 u2
    have k3 := ht t u t1 (by omega) (by omega) u2
    unfold R; omega
  have RL : ∀ u t, m ≤ u → u < mid + m - start → start ≤ t → t < m → R K T (f u) (f t) := by
    intro u t u1 u2 t1 t2
    have n := h.yes start (Nat.le_refl _) (by intro k; have := h.lo1 k; omega) (by intro k; have := h.lo2 k; omega)
    have k1 := h1.keys (i := start) (j := t) (by omega) t1 (by omega)
    have k2 := h2.keys (i := u) (j := mid + m - 1 - start) u1 (by omega) (by omega)
    exact .inl (by omega)
  intro i j hi hi2 hj hj2
  simp only [rotF]
  repeat' split
  all_goals first
    | (exfalso; omega)
    | exact RL _ _ (by omega) (by omega) (by omega) (by omega)
    | exact LR _ _ (by omega) (by omega) (by omega) (by omega)
    | exact h1 _ _ (by omega) (by omega) (by omega)
    | exact h2 _ _ (by omega) (by omega) (by omega)
/-- The turned row's four runs. -/
theorem Cut.runs (h : Cut K f a m b mid start) (ham : a < m) (hmb : m < b) (h1 : Srt K T f a m) (h2 : Srt K T f m b) (ht : Tag T f a m b) :
    Srt K T (rotF f start m (mid + m - start)) a start ∧ Srt K T (rotF f start m (mid + m - start)) start mid ∧ Tag T (rotF f start m (mid + m - start)) a start mid ∧
    Srt K T (rotF f start m (mid + m - start)) mid (mid + m - start) ∧ Srt K T (rotF f start m (mid + m - start)) (mid + m - start) b ∧ Tag T (rotF f start m (mid + m - start)) mid (mid + m - start) b := by
  have hb := h.bounds ham hmb
  refine ⟨?_, ?_, ?_, ?_, ?_, ?_⟩
  · intro i j hi hij hj
    simp only [rotF]
    rw [if_neg (by omega), if_neg (by omega), if_neg (by omega), if_neg (by omega)]
    exact h1 i j hi hij (by omega)
  · intro i j hi hij hj
    simp only [rotF]
    rw [if_pos (by omega), if_pos (by omega)]
    exact h2 _ _ (by omega) (by omega) (by omega)
  · intro i j hi hi2 hj hj2
    simp only [rotF]
    rw [if_neg (by omega), if_neg (by omega), if_pos (by omega)]
    exact ht _ _ (by omega) (by omega) (by omega) (by omega)
  · intro i j hi hij hj
    simp only [rotF]
    rw [if_neg (by omega), if_pos (by omega), if_neg (by omega), if_pos (by omega)]
    exact h1 _ _ (by omega) (by omega) (by omega)
  · intro i j hi hij hj
    simp only [rotF]
    rw [if_neg (by omega), if_neg (by omega), if_neg (by omega), if_neg (by omega)]
    exact h2 i j (by omega) hij hj
  · intro i j hi hi2 hj hj2
    simp only [rotF]
    rw [if_neg (by omega), if_pos (by omega), if_neg (by omega), if_neg (by omega)]
    exact ht _ _ (by omega) (by omega) (by omega) (by omega)
/-- The search goes on: what one look at c tells. -/
theorem keys_down (h1 : Srt K T f a m) (h2 : Srt K T f m b) {c c' p p' : Nat} (hc : a ≤ c) (hcc : c ≤ c') (hc' : c' < m) (hp : m ≤ p') (hpp : p' ≤ p) (hp' : p < b) (h : ¬ K (f p') < K (f c')) : ¬ K (f p) < K (f c) := by
  have := h1.keys hc hcc hc'
  have := h2.keys hp hpp hp'
  omega
end order
end Go.Proofs.Ytidokfbjfdkfdaa.Sm
