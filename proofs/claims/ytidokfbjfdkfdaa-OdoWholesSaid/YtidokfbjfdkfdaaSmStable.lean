/-
  Package sort's own text: symMerge_func for stretches of any length; stable_func.
-/
import Derived.Test.YtidokfbjfdkfdaaSmGenA
import Derived.Test.YtidokfbjfdkfdaaSmGenB
import Derived.Test.YtidokfbjfdkfdaaSmIns
namespace Go.Proofs.Ytidokfbjfdkfdaa
open Go.RowKit Go.Sort Go.Lib
open Sm
variable {α : Type} [Inhabited α]

theorem sym_any (K : α → Int) (T : α → Nat) (enc : α → Value) (g : Nat) (lb : Array Value) (sf : Nat) (sb : Array Value) (blk off size : Nat)
    (eg : ∀ args w, (callFunc g args).run Try.prog w = .ok (.enter g args) w) (hswap : SwapSwaps Try.prog sf sb enc blk off size) (hsz : size < 1099511627776) :
    ∀ N, SymOk K T enc g lb sf sb blk off size N := by
  intro N
  induction N with
  | zero => intro a m b d W _ h; omega
  | succ N ih =>
    intro a m b d W hs hN ham hmb hb hless hH hblk h1 h2 ht
    subst hs
    by_cases k1 : m = a + 1
    · subst k1
      exact sym_left K T enc g lb sf sb blk off a b d W eg hless hswap hH hblk hmb hb hsz h2 ht
    · by_cases k2 : b = m + 1
      · subst k2
        exact sym_right K T enc g lb sf sb blk off a m d W eg hless hswap hH hblk (by omega) hb hsz h1 ht
      · have ih2 : SymOk K T enc g lb sf sb blk off d.size (b - a) := fun a' m' b' d' W' e1 e2 => ih a' m' b' d' W' e1 (by omega)
        by_cases k3 : (a + b) / 2 < m
        · exact sym_above K T enc g lb sf sb blk off a m b d W eg hless hswap hH hblk (by omega) (by omega) hb hsz h1 h2 ht k3 ih2
        · exact sym_under K T enc g lb sf sb blk off a m b d W eg hless hswap hH hblk (by omega) (by omega) hb hsz h1 h2 ht (by omega) ih2

/-- The blocks of s from lo below hi: each in order, and before whatever comes behind it. -/
def Gd (K : α → Int) (T : α → Nat) (f : Nat → α) (s lo hi n : Nat) : Prop := ∀ x, s ∣ x → lo ≤ x → x < hi → Srt K T f x (min (x + s) n) ∧ Tag T f x (x + s) n
theorem dvd_gap {s x a : Nat} (hx : s ∣ x) (ha : s ∣ a) (h : x < a) : x + s ≤ a := by
  obtain ⟨u, rfl⟩ := hx
  obtain ⟨v, rfl⟩ := ha
  have h2 : u < v := Nat.lt_of_mul_lt_mul_left h
  have h3 : s * (u + 1) ≤ s * v := Nat.mul_le_mul_left s h2
  rw [Nat.mul_add, Nat.mul_one] at h3
  exact h3
variable {K : α → Int} {T : α → Nat}
theorem gd_step {d d' : Array α} {S a c n : Nat} (hS : 0 < S) (ha : S ∣ a) (hG : Gd K T (pl d) S 0 a n) (hp : PermIn a c d d') (hc : c = min (a + S) n) (han : a ≤ n) (hn : n ≤ d.size) (hs : Srt K T (pl d') a c) (ht : Tag T (pl d) a (a + S) n) :
    Gd K T (pl d') S 0 (a + S) n := by
  intro x hx _ hx2
  by_cases e : x = a
  · subst e
    refine ⟨by rw [← hc]; exact hs, ?_⟩
    intro i j i1 i2 j1 j2
    have q := permIn_all d d' x c (fun y => T y < T (pl d j)) (by omega) hp (fun i i1 i2 => ht i j i1 (by omega) j1 j2) i i1 (by omega)
    rw [perm_pl hp (t := j) (.inr (by omega))]
    exact q
  · have hxa : x < a := by
      rcases Nat.lt_or_ge x a with h | h
      · exact h
      · have := dvd_gap ha hx (by omega); omega
    have hgap := dvd_gap hx ha hxa
    obtain ⟨g1, g2⟩ := hG x hx (by omega) hxa
    refine ⟨g1.congr (fun t _ t2 => perm_pl hp (.inl (by omega))), ?_⟩
    intro i j i1 i2 j1 j2
    rw [perm_pl hp (t := i) (.inl (by omega))]
    by_cases h1 : j < a
    · rw [perm_pl hp (.inl h1)]; exact g2 i j i1 i2 j1 j2
    · by_cases h2 : c ≤ j
      · rw [perm_pl hp (.inr h2)]; exact g2 i j i1 i2 j1 j2
      · exact permIn_all d d' a c (fun y => T (pl d i) < T y) (by omega) hp (fun j j1 j2 => g2 i j i1 i2 (by omega) (by omega)) j (by omega) (by omega)
theorem gd_rest {d d' : Array α} {s a c n : Nat} (hG : Gd K T (pl d) s a n n) (hp : PermIn a c d d') (hac : a ≤ c) : Gd K T (pl d') s c n n := by
  intro x hx h1 h2
  obtain ⟨g1, g2⟩ := hG x hx (by omega) h2
  refine ⟨g1.congr (fun t t1 _ => perm_pl hp (.inr (by omega))), ?_⟩
  intro i j i1 i2 j1 j2
  rw [perm_pl hp (.inr (by omega)), perm_pl hp (.inr (by omega))]
  exact g2 i j i1 i2 j1 j2
omit [Inhabited α] in
/-- The two blocks of s from a. -/
theorem gd_two {f : Nat → α} {s a n : Nat} (hs : 0 < s) (ha : s ∣ a) (hG : Gd K T f s a n n) (h : a + s < n) : Srt K T f a (a + s) ∧ Srt K T f (a + s) (min (a + 2 * s) n) ∧ Tag T f a (a + s) (min (a + 2 * s) n) ∧ Tag T f a (a + 2 * s) n := by
  obtain ⟨g1, g2⟩ := hG a ha (Nat.le_refl _) (by omega)
  obtain ⟨g3, g4⟩ := hG (a + s) (Nat.dvd_add ha (Nat.dvd_refl s)) (by omega) h
  rw [show min (a + s) n = a + s by omega] at g1
  rw [show a + s + s = a + 2 * s by omega] at g3 g4
  refine ⟨g1, g3, fun i j i1 i2 j1 j2 => g2 i j i1 i2 j1 (by omega), fun i j i1 i2 j1 j2 => ?_⟩
  by_cases k : i < a + s
  · exact g2 i j i1 k (by omega) j2
  · exact g4 i j (by omega) i2 j1 j2
omit [Inhabited α] in
theorem gd_all {f : Nat → α} {s c n : Nat} (hG : Gd K T f s 0 c n) (h : n ≤ c) : Gd K T f s 0 n n := fun x hx h1 h2 => hG x hx h1 (by omega)
omit [Inhabited α] in
theorem gd_none {f : Nat → α} {s n : Nat} : Gd K T f s 0 0 n := fun x _ _ h => by omega
omit [Inhabited α] in
theorem gd_end {f : Nat → α} {s n : Nat} (hG : Gd K T f s 0 n n) (h : n ≤ s) : Srt K T f 0 n := by
  by_cases h0 : n = 0
  · subst h0; intro i j h1 h2 h3; omega
  · have := (hG 0 (Nat.dvd_zero s) (Nat.le_refl _) (by omega)).1
    rwa [show min (0 + s) n = n by omega] at this
end Go.Proofs.Ytidokfbjfdkfdaa
