/-
  Small words of our own on memory: a block whose cells are all known; what keeps it.
-/
import Derived.Test.YteioefgckigbcaaRows

import Derived.WalkKit

import Derived.WalkSpells

import Derived.WalkLawsBesides

import Derived.Deep.Draws

import Derived.Laws.Rows

import Derived.Laws.Tables

import Derived.Maps.AppendAt

import Derived.OwnWalk

import Derived.Laws.AppendOwnNone

import Derived.Lib.Hide

namespace Go.Proofs.Yteioefgckigbcaa

open Go.RowKit

/-- Block g holds just the cells cs, of element type t, none of them frozen. -/
def Has (w : World) (g : Nat) (t : TypeId) (cs : Array Value) : Prop := w.heap[g]? = some (.cells cs t (0, 0))

section

variable {w w' : World} {g : Nat} {t : TypeId} {cs : Array Value}
theorem Has.lt (h : Has w g t cs) : g < w.heap.size := (Array.getElem?_eq_some_iff.1 h).1
theorem Has.cell (h : Has w g t cs) (i : Nat) : w.cell? ⟨g, i, none⟩ = cs[i]? := cell_of_row w g i cs t (0, 0) h
theorem Has.thaw (h : Has w g t cs) (i : Nat) : w.frozen? ⟨g, i, none⟩ = false := by unfold Has at h; simp [World.frozen?, h]
theorem Has.made (w : World) (t : TypeId) (cs : Array Value) : Has (w.alloc (.cells cs t)) w.heap.size t cs := heap_alloc_new w _
theorem Has.draw (h : Has w g t cs) : Has w.drew g t cs := h
theorem Has.draws (h : Has w g t cs) (n : Nat) : Has (w.drewN n) g t cs := h
theorem Has.beside (h : Has w g t cs) (o : Obj) : Has (w.alloc o) g t cs := by
  unfold Has; rw [Below.heap_alloc w o g h.lt]; exact h
theorem Has.stored (h : Has w g t cs) (i : Nat) (u : Value) : Has (w.setCell ⟨g, i, none⟩ u) g t (cs.setIfInBounds i u) := by
  unfold Has at h ⊢; simp [World.setCell, Array.getElem?_modify, h]
theorem Has.apart (h : Has w g t cs) {p : Addr} (hp : g ≠ p.block) (u : Value) : Has (w.setCell p u) g t cs := by
  unfold Has; rw [Below.heap_setCell w p u g hp]; exact h
theorem Has.under {B : Nat} (h : Has w g t cs) (hb : Below B w w') (hg : g < B) : Has w' g t cs := by
  unfold Has; rw [hb.block g hg]; exact h
theorem Has.grow {row : Option Nat} (h : Has w g t cs) (hb : w.grownBy w' row) (hg : some g ≠ row) : Has w' g t cs := by
  unfold Has; rw [hb.block g h.lt hg]; exact h
theorem Has.other {g' : Nat} {t' : TypeId} {cs' : Array Value} (h : Has w g t cs) (h' : Has w g' t' cs') (hne : t ≠ t') : g ≠ g' := by
  intro e
  subst e
  unfold Has at h h'
  rw [h] at h'
  simp only [Option.some.injEq, Obj.cells.injEq] at h'
  exact hne h'.2.1
end

/-! Only block g has turned, and what is new. -/
theorem only_refl (w : World) (row : Option Nat) : w.grownBy w row := ⟨rfl, rfl, rfl, Nat.le_refl _, fun _ _ _ => rfl⟩
theorem only_trans {a b c : World} {row : Option Nat} (h : a.grownBy b row) (k : b.grownBy c row) : a.grownBy c row :=
  ⟨k.os.trans h.os, k.tape.trans h.tape, k.output.trans h.output, Nat.le_trans h.size k.size, fun i hi hne => (k.block i (Nat.lt_of_lt_of_le hi h.size) hne).trans (h.block i hi hne)⟩
theorem only_draw {a b : World} {row : Option Nat} (h : a.grownBy b row) : a.grownBy b.drew row := ⟨h.os, h.tape, h.output, h.size, h.block⟩
theorem only_draws {a b : World} {row : Option Nat} (h : a.grownBy b row) (n : Nat) : a.grownBy (b.drewN n) row := ⟨h.os, h.tape, h.output, h.size, h.block⟩
theorem only_alloc {a b : World} {row : Option Nat} (h : a.grownBy b row) (o : Obj) : a.grownBy (b.alloc o) row :=
  only_trans h (World.grownBy_alloc b o row)
theorem only_store {a b : World} {g : Nat} (h : a.grownBy b (some g)) {p : Addr} (hp : p.block = g) (u : Value) : a.grownBy (b.setCell p u) (some g) :=
  only_trans h ⟨rfl, rfl, rfl, by simp [World.setCell], fun i _ hne => Below.heap_setCell b p u i (fun e => hne (by rw [e, hp]))⟩
theorem only_below {a b : World} {B : Nat} (h : Below B a b) (hB : a.heap.size ≤ B) (row : Option Nat) : a.grownBy b row :=
  ⟨h.os, h.tape, h.output, h.size, fun i hi _ => h.block i (Nat.lt_of_lt_of_le hi hB)⟩
theorem below_only {a b w : World} {B g : Nat} (h : Below B a b) (k : b.grownBy w (some g)) (hB : B ≤ b.heap.size) (hg : B ≤ g) : Below B a w :=
  h.grown k hB (fun x hx => by cases hx; exact hg)
theorem below_draws {B : Nat} {a w : World} (h : Below B a w) (n : Nat) : Below B a (w.drewN n) := ⟨h.os, h.tape, h.output, h.size, h.block⟩
theorem below_row {B g : Nat} {a w : World} (h : Below B a w) (hg : B ≤ g) (cs : Array Value) : Below B a (w.setRow g cs) :=
  ⟨h.os, h.tape, h.output, by simpa using h.size, fun k hk => by rw [setRow_other w g k cs (by omega)]; exact h.block k hk⟩

/-- A struct or an array that is made at once, its cells known as a whole. -/
theorem wpList_built {P : Program} {ops : Array Oper} {rest : List Oper} {o : Oper} {a : Act} {w : World} {Q : Exit → Act → World → Prop} (hg : o.guard = none) (t : TypeId) (parts : Array (Nat × Operand)) (ho : o.op = .build t parts)
    (cells : Array Value) (hc : P.built t (parts.map fun (i, x) => (i, a.eval x)).toList = some cells)
    (h : wpList P ops Q rest (a.put o.dst (.agg cells)) w) : wpList P ops Q (o :: rest) a w :=
  wpList_build hg t parts ho (by rw [hc]; rfl) (by rw [hc]; exact h)
theorem wpList_zeroed {P : Program} {ops : Array Oper} {rest : List Oper} {o : Oper} {a : Act} {w : World} {Q : Exit → Act → World → Prop} (hg : o.guard = none) (t : TypeId) (ho : o.op = .build t #[])
    (cells : Array Value) (hc : P.built t [] = some cells)
    (h : wpList P ops Q rest (a.put o.dst (.agg cells)) w) : wpList P ops Q (o :: rest) a w :=
  wpList_built hg t #[] ho cells (by simpa using hc) h

/-! A slice of the call's own, to which is appended. -/
theorem own_apart {w : World} {base : Nat} {e t : TypeId} {size n g : Nat} {v : Value} {xs : List Value} {cs : Array Value} (h : w.ownsRow base e size v n xs) (hg : Has w g t cs) (hne : e ≠ t) : v.ownBlock ≠ some g := by
  rcases h.2 with ⟨rfl, _⟩ | ⟨g', cap, cur, rfl, _, hh, _⟩
  · simp [Value.ownBlock]
  · intro he
    have e' : g' = g := by simpa [Value.ownBlock] using he
    subst e'
    exact Has.other (t := e) hh hg hne rfl
theorem own_keep {w w' : World} {base : Nat} {e : TypeId} {size n g : Nat} {v : Value} {xs : List Value} (h : w.ownsRow base e size v n xs) (hg : w.grownBy w' (some g)) (hne : v.ownBlock ≠ some g) : w'.ownsRow base e size v n xs :=
  h.kept hg (.inr hne)
theorem own_under {w w' : World} {base B : Nat} {e : TypeId} {size n : Nat} {v : Value} {xs : List Value} (h : w.ownsRow base e size v n xs) (hb : Below B w w') (hB : w.heap.size ≤ B) : w'.ownsRow base e size v n xs := by
  refine h.kept (row := none) (only_below hb hB none) ?_
  cases v.ownBlock with
  | none => exact .inl rfl
  | some k => exact .inr (by simp)
theorem own_shape {w : World} {base : Nat} {e : TypeId} {size n : Nat} {v : Value} {xs : List Value} (h : w.ownsRow base e size v n xs) : ∃ A c, v = .slice A n c := by
  rcases h.2 with ⟨rfl, rfl⟩ | ⟨g, cap, _, rfl, _⟩
  · exact ⟨none, 0, rfl⟩
  · exact ⟨_, _, rfl⟩
theorem below_own {a w w' : World} {B : Nat} {row : Option Nat} {base : Nat} {e : TypeId} {size n : Nat} {v : Value} {xs : List Value} (h : Below B a w) (hB : B ≤ w.heap.size) (ho : w.ownsRow base e size v n xs) (hbase : B ≤ base) (hr : row = v.ownBlock) (hg : w.grownBy w' row) : Below B a w' :=
  h.grown hg hB (fun k hk => Nat.le_trans hbase (ho.lt k (by rw [← hr, hk])).1)

theorem wpList_push {P : Program} {ops : Array Oper} {rest : List Oper} {o : Oper} {a : Act} {w : World} {Q : Exit → Act → World → Prop} (hgd : o.guard = none) (s x : Operand) (t : TypeId)
    (ho : o.op = .call { callee := .builtin .append, args := #[s, x], argTypes := #[t, t] })
    (base : Nat) (e : TypeId) (z : Value) (size bytes : Nat) (ht : P.underlying t = some (.slice e)) (hinfo : (P.info? e).map (fun i => (i.zero, i.size, i.bytes)) = some (some z, size, bytes))
    (hzs : z.cells.size = size) (hsz : 0 < size)
    (A : Option Addr) (n c : Nat) (xs : List Value) (hs : a.eval s = .slice A n c) (hown : Hid (w.ownsRow base e size (.slice A n c) n xs))
    (ad : Addr) (m cc : Nat) (news : List Value) (hx : a.eval x = .slice (some ad) m cc) (hl : Hid (news.length = m * size)) (hnews : Hid (∀ j u, news[j]? = some u → w.cell? (ad.add j) = some u)) (h1 : Hid (∀ u ∈ news, u.oneCell' = true))
    (hb : Hid (n + m ≤ maxLen ∧ (n + m) * bytes ≤ 140737488355328 ∧ base ≤ w.heap.size))
    (h : ∀ A' c' w', Hid (w'.ownsRow base e size (.slice A' (n + m) c') (n + m) (xs ++ news)) → Hid (w.grownBy w' (Value.ownBlock (.slice A n c))) →
      wpList P ops Q rest (a.put o.dst (.slice A' (n + m) c')) w') : wpList P ops Q (o :: rest) a w := by
  obtain ⟨i, hi, hz, hsize, hby⟩ := info_parts hinfo
  refine wpList_append_own_at w hgd s x t ho base e i z size bytes ht hi hz hsize hby hzs hsz (.slice A n c) n xs hs hown.out ad m cc news hx hl.out hnews.out h1.out hb.out.1 hb.out.2.1 hb.out.2.2 ?_
  intro v' w' h2 h3 _ _
  obtain ⟨A', c', rfl⟩ := own_shape h2
  exact h A' c' w' h2 h3

/-! A slice value that holds the cells vs (an element takes size cells), wherever it lies. -/
def Sl (w : World) (size : Nat) (A : Option Addr) (m c : Nat) (vs : List Value) : Prop :=
  vs.length = m * size ∧ (A = none → m = 0 ∧ c = 0) ∧ ∀ ad, A = some ad → ∀ j u, vs[j]? = some u → w.cell? (ad.add j) = some u
theorem sl_nil (w : World) (size : Nat) : Sl w size none 0 0 [] := ⟨by simp, fun _ => ⟨rfl, rfl⟩, fun _ h => by cases h⟩
theorem cell_block {w : World} {a : Addr} {v : Value} (h : w.cell? a = some v) : a.block < w.heap.size := by
  rcases Nat.lt_or_ge a.block w.heap.size with h1 | h1
  · exact h1
  · exfalso
    have hn : w.heap[a.block]? = none := Array.getElem?_eq_none h1
    simp [World.cell?, hn] at h
theorem Sl.under {w w' : World} {size : Nat} {A : Option Addr} {m c : Nat} {vs : List Value} (h : Sl w size A m c vs) (hb : Below w.heap.size w w') : Sl w' size A m c vs :=
  ⟨h.1, h.2.1, fun ad ha j u hu => by have h0 := h.2.2 ad ha j u hu; rw [hb.cell (cell_block h0)]; exact h0⟩
theorem Sl.beside {w : World} {size : Nat} {A : Option Addr} {m c : Nat} {vs : List Value} (h : Sl w size A m c vs) (o : Obj) : Sl (w.alloc o) size A m c vs :=
  h.under ((Below.refl _ _).alloc (Nat.le_refl _) o)
theorem Sl.draws {w : World} {size : Nat} {A : Option Addr} {m c : Nat} {vs : List Value} (h : Sl w size A m c vs) (n : Nat) : Sl (w.drewN n) size A m c vs := h
theorem Sl.at_ {w : World} {size : Nat} {A : Option Addr} {m c : Nat} {vs : List Value} (h : Sl w size A m c vs) {j : Nat} {u : Value} (hj : vs[j]? = some u) : ∃ b off, A = some ⟨b, off, none⟩ ∧ w.cell? ⟨b, off + j, none⟩ = some u := by
  cases A with
  | none =>
    have := h.1
    rw [(h.2.1 rfl).1] at this
    have e : vs = [] := List.eq_nil_of_length_eq_zero (by simpa using this)
    subst e
    simp at hj
  | some a =>
    obtain ⟨b, off, spot⟩ := a
    have h0 := h.2.2 _ rfl j u hj
    have hlt : 0 < vs.length := by have := (List.getElem?_eq_some_iff.1 hj).1; omega
    have h00 := h.2.2 _ rfl 0 _ (List.getElem?_eq_getElem hlt)
    have hspot : spot = none := by simpa [Addr.add] using World.cell?_spot h00
    subst hspot
    refine ⟨b, off, rfl, ?_⟩
    rw [← WideShapes.add_plain]
    exact h0
theorem Sl.of_own {w : World} {base : Nat} {e : TypeId} {size : Nat} {A : Option Addr} {m c : Nat} {vs : List Value} (h : w.ownsRow base e size (.slice A m c) m vs) : Sl w size A m c vs := by
  refine ⟨h.1, fun ha => ?_, fun ad ha j u hu => ?_⟩
  · subst ha
    rcases h.2 with ⟨e1, e2⟩ | ⟨g, cap, cur, e1, _⟩
    · injection e1 with _ _ e3
      exact ⟨e2, e3⟩
    · injection e1 with e1
      cases e1
  · subst ha
    rcases h.2 with ⟨e1, _⟩ | ⟨g, cap, cur, e1, _⟩
    · injection e1 with e1
      cases e1
    · injection e1 with e1
      injection e1 with e1
      subst e1
      exact h.cells rfl j u hu

theorem wpList_pour {P : Program} {ops : Array Oper} {rest : List Oper} {o : Oper} {a : Act} {w : World} {Q : Exit → Act → World → Prop} (hgd : o.guard = none) (s x : Operand) (t : TypeId)
    (ho : o.op = .call { callee := .builtin .append, args := #[s, x], argTypes := #[t, t] })
    (base : Nat) (e : TypeId) (z : Value) (size bytes : Nat) (ht : P.underlying t = some (.slice e)) (hinfo : (P.info? e).map (fun i => (i.zero, i.size, i.bytes)) = some (some z, size, bytes))
    (hzs : z.cells.size = size) (hsz : 0 < size)
    (A : Option Addr) (n c : Nat) (xs : List Value) (hs : a.eval s = .slice A n c) (hown : Hid (w.ownsRow base e size (.slice A n c) n xs))
    (B : Option Addr) (m cc : Nat) (news : List Value) (hx : a.eval x = .slice B m cc) (hl : Hid (Sl w size B m cc news)) (h1 : Hid (∀ u ∈ news, u.oneCell' = true))
    (hb : Hid (n + m ≤ maxLen ∧ (n + m) * bytes ≤ 140737488355328 ∧ base ≤ w.heap.size))
    (h : ∀ A' c' w', Hid (w'.ownsRow base e size (.slice A' (n + m) c') (n + m) (xs ++ news)) → Hid (w.grownBy w' (Value.ownBlock (.slice A n c))) →
      wpList P ops Q rest (a.put o.dst (.slice A' (n + m) c')) w') : wpList P ops Q (o :: rest) a w := by
  cases B with
  | none =>
    obtain ⟨rfl, rfl⟩ := hl.out.2.1 rfl
    have e0 : news = [] := List.eq_nil_of_length_eq_zero (by simpa using hl.out.1)
    subst e0
    obtain ⟨i, hi, _⟩ := info_parts hinfo
    exact wpList_append_own_none hgd s x t ho base e i size ht hi (.slice A n c) n xs hs hown.out hx (h A c w (show Hid _ by simpa using hown) (only_refl _ _))
  | some ad =>
    exact wpList_push hgd s x t ho base e z size bytes ht hinfo hzs hsz A n c xs hs hown ad m cc news hx hl.out.1 (hl.out.2.2 ad rfl) h1 hb h

/-- wpList_push, at a region that draws its order. -/
theorem step_push {P : Program} {ops : Array Oper} {o : Oper} {a : Act} {w : World} {K : Act → World → Prop} {Q : Exit → Act → World → Prop} {E : Prop} (hgd : o.guard = none) (s x : Operand) (t : TypeId)
    (ho : o.op = .call { callee := .builtin .append, args := #[s, x], argTypes := #[t, t] })
    (base : Nat) (e : TypeId) (z : Value) (size bytes : Nat) (ht : P.underlying t = some (.slice e)) (hinfo : (P.info? e).map (fun i => (i.zero, i.size, i.bytes)) = some (some z, size, bytes))
    (hzs : z.cells.size = size) (hsz : 0 < size)
    (A : Option Addr) (n c : Nat) (xs : List Value) (hs : a.eval s = .slice A n c) (hown : Hid (w.ownsRow base e size (.slice A n c) n xs))
    (ad : Addr) (m cc : Nat) (news : List Value) (hx : a.eval x = .slice (some ad) m cc) (hl : Hid (news.length = m * size)) (hnews : Hid (∀ j u, news[j]? = some u → w.cell? (ad.add j) = some u)) (h1 : Hid (∀ u ∈ news, u.oneCell' = true))
    (hb : Hid (n + m ≤ maxLen ∧ (n + m) * bytes ≤ 140737488355328 ∧ base ≤ w.heap.size))
    (h : ∀ A' c' w', Hid (w'.ownsRow base e size (.slice A' (n + m) c') (n + m) (xs ++ news)) → Hid (w.grownBy w' (Value.ownBlock (.slice A n c))) →
      K (a.put o.dst (.slice A' (n + m) c')) w') : if Region.wanted o (yielded ops a.tmps) = true then Oper.wp P o a w K Q else E := by
  have hw : Region.wanted o (yielded ops a.tmps) = true := by simp [Region.wanted, hgd]
  rw [if_pos hw]
  obtain ⟨i, hi, hz, hsize, hby⟩ := info_parts hinfo
  obtain ⟨v', w', hr, h2, h3, _, _⟩ := run_append_own_at (P := P) w base t o.type e i z size bytes ht hi hz hsize hby hzs hsz (.slice A n c) n xs hown.out ad m cc news hl.out hnews.out h1.out hb.out.1 hb.out.2.1 hb.out.2.2
  obtain ⟨A', c', rfl⟩ := own_shape h2
  unfold Oper.wp execOp
  simp only [ho, resolve, invoke, builtin, Sem.run_bind, Sem.run_pure, Result.andThen_ok, List.map_toArray, List.map_cons, List.map_nil, hs, hx, hr]
  exact h A' c' w' h2 h3

end Go.Proofs.Yteioefgckigbcaa
