/-
  The pure end of a merge in place.
-/
import Derived.Test.YtidokfbjfdkfdaaSmRight
namespace Go.Proofs.Ytidokfbjfdkfdaa
open Go.RowKit Go.Sort Go.Lib
open Sm
variable {α : Type} [Inhabited α]

theorem perm_pl {a b : Nat} {d d' : Array α} (h : PermIn a b d d') {t : Nat} (ht : t < a ∨ b ≤ t) : pl d' t = pl d t := h.2.1 t ht
theorem merge_done {K : α → Int} {T : α → Nat} {a mid b : Nat} {d1 d2 d3 : Array α} (hb : b ≤ d1.size) (h1 : a ≤ mid) (h2 : mid ≤ b)
    (cross : ∀ i j, a ≤ i → i < mid → mid ≤ j → j < b → R K T (pl d1 i) (pl d1 j)) (p2 : PermIn a mid d1 d2) (s2 : Srt K T (pl d2) a mid) (p3 : PermIn mid b d2 d3) (s3 : Srt K T (pl d3) mid b) :
    Srt K T (pl d3) a b ∧ PermIn a b d1 d3 := by
  have e2 := p2.1
  constructor
  · refine Srt.glue (s2.congr fun t t1 t2 => perm_pl p3 (.inl t2)) s3 ?_
    have q2 := permIn_all d1 d2 a mid (fun x => ∀ j, mid ≤ j → j < b → R K T x (pl d1 j)) (by omega) p2 (fun i i1 i2 j j1 j2 => cross i j i1 i2 j1 j2)
    have q3 := permIn_all d2 d3 mid b (fun y => ∀ i, a ≤ i → i < mid → R K T (pl d2 i) y) (by omega) p3 (fun j j1 j2 i i1 i2 => by
      rw [show d2[j]! = pl d1 j from perm_pl p2 (.inr j1)]
      exact q2 i i1 i2 j j1 j2)
    intro i j i1 i2 j1 j2
    rw [perm_pl p3 (.inl i2)]
    exact q3 j j1 j2 i i1 i2
  · exact permIn_trans _ _ _ a b (permIn_mono _ _ a mid a b (Nat.le_refl _) h2 hb p2) (permIn_mono _ _ mid b a b h1 (Nat.le_refl _) (by omega) p3)

/-- What symMerge_func does, for stretches shorter than N. -/
def SymOk (K : α → Int) (T : α → Nat) (enc : α → Value) (g : Nat) (lb : Array Value) (sf : Nat) (sb : Array Value) (blk off size N : Nat) : Prop :=
  ∀ (a m b : Nat) (d : Array α) (W : World), d.size = size → b - a < N → a < m → m < b → b ≤ size → LessReads Try.prog g lb enc (fun x y => decide (K x < K y)) blk off size W → Holds enc W blk off d → blk < W.heap.size →
    Srt K T (pl d) a m → Srt K T (pl d) m b → Tag T (pl d) a m b →
    Calls Try.prog 62 #[.agg #[.func (.func g) #[] lb, .func (.func sf) #[] sb], .int .i64 a, .int .i64 m, .int .i64 b] W fun e w' =>
      e = .returned (.tuple #[]) ∧ ∃ d', d'.size = size ∧ PermIn a b d d' ∧ Srt K T (pl d') a b ∧ SW enc W blk off d' w'
end Go.Proofs.Ytidokfbjfdkfdaa
