/-
  Mem, Push2, Open, Bytes8, ByteKit, Cut, Kit9, KitR: merged.
-/
import Derived.Test.YtekcnmimfhiblaaRows
import Derived.WalkKit
import Derived.WalkSpells
import Derived.WalkLawsBesides
import Derived.Deep.Draws
import Derived.Laws.Rows
import Derived.Laws.Tables
import Derived.Maps.AppendAt
import Derived.OwnWalk
import Derived.Laws.AppendOwnNone
import Derived.Lib.Hide
import Derived.ProofKit
import Derived.OpenShut
import Derived.Deep.Slices
import Derived.Lib.SmallJoins
import Derived.Laws.CopyOwn
import Derived.Deep.OwnRows
import Derived.Laws.BytesArg
import Derived.Lib.ConvBytes
import Derived.Test.YtekcnmimfhiblaaMgA
import Derived.Laws.OwnMore
import Derived.Laws.BitsAllLaws
import Derived.ChangeKeysEq
import Derived.Laws.ResultCell
import Derived.Deep.RegionHeld3

/-
  Small words of our own on memory: a block whose cells are all known; what keeps it.
-/
namespace Go.Proofs.Ytekcnmimfhiblaa
open Go.RowKit

/-- Block g holds just the cells cs, of element type t, none of them frozen. -/
def Has (w : World) (g : Nat) (t : TypeId) (cs : Array Value) : Prop := w.heap[g]? = some (.cells cs t (0, 0))

section
variable {w w' : World} {g : Nat} {t : TypeId} {cs : Array Value}
theorem Has.lt (h : Has w g t cs) : g < w.heap.size := (Array.getElem?_eq_some_iff.1 h).1
theorem Has.cell (h : Has w g t cs) (i : Nat) : w.cell? ⟨g, i, none⟩ = cs[i]? := cell_of_row w g i cs t (0, 0) h
theorem Has.thaw (h : Has w g t cs) (i : Nat) : w.frozen? ⟨g, i, none⟩ = false := by unfold Has at h; simp [World.frozen?, h]
theorem Has.made (w : World) (t : TypeId) (cs : Array Value) : Has (w.alloc (.cells cs t)) w.heap.size t cs := heap_alloc_new w _
theorem Has.draw (h : Has w g t cs) : Has w.drew g t cs := h
theorem Has.draws (h : Has w g t cs) (n : Nat) : Has (w.drewN n) g t cs := h
theorem Has.beside (h : Has w g t cs) (o : Obj) : Has (w.alloc o) g t cs := by
  unfold Has; rw [Below.heap_alloc w o g h.lt]; exact h
theorem Has.stored (h : Has w g t cs) (i : Nat) (u : Value) : Has (w.setCell ⟨g, i, none⟩ u) g t (cs.setIfInBounds i u) := by
  unfold Has at h ⊢; simp [World.setCell, Array.getElem?_modify, h]
theorem Has.apart (h : Has w g t cs) {p : Addr} (hp : g ≠ p.block) (u : Value) : Has (w.setCell p u) g t cs := by
  unfold Has; rw [Below.heap_setCell w p u g hp]; exact h
theorem Has.under {B : Nat} (h : Has w g t cs) (hb : Below B w w') (hg : g < B) : Has w' g t cs := by
  unfold Has; rw [hb.block g hg]; exact h
theorem Has.grow {row : Option Nat} (h : Has w g t cs) (hb : w.grownBy w' row) (hg : some g ≠ row) : Has w' g t cs := by
  unfold Has; rw [hb.block g h.lt hg]; exact h
theorem Has.other {g' : Nat} {t' : TypeId} {cs' : Array Value} (h : Has w g t cs) (h' : Has w g' t' cs') (hne : t ≠ t') : g ≠ g' := by
  intro e
  subst e
  unfold Has at h h'
  rw [h] at h'
  simp only [Option.some.injEq, Obj.cells.injEq] at h'
  exact hne h'.2.1
end

/-! Only block g has turned, and what is new. -/
theorem only_refl (w : World) (row : Option Nat) : w.grownBy w row := ⟨rfl, rfl, rfl, Nat.le_refl _, fun _ _ _ => rfl⟩
theorem only_trans {a b c : World} {row : Option Nat} (h : a.grownBy b row) (k : b.grownBy c row) : a.grownBy c row :=
  ⟨k.os.trans h.os, k.tape.trans h.tape, k.output.trans h.output, Nat.le_trans h.size k.size, fun i hi hne => (k.block i (Nat.lt_of_lt_of_le hi h.size) hne).trans (h.block i hi hne)⟩
theorem only_draw {a b : World} {row : Option Nat} (h : a.grownBy b row) : a.grownBy b.drew row := ⟨h.os, h.tape, h.output, h.size, h.block⟩
theorem only_draws {a b : World} {row : Option Nat} (h : a.grownBy b row) (n : Nat) : a.grownBy (b.drewN n) row := ⟨h.os, h.tape, h.output, h.size, h.block⟩
theorem only_alloc {a b : World} {row : Option Nat} (h : a.grownBy b row) (o : Obj) : a.grownBy (b.alloc o) row :=
  only_trans h (World.grownBy_alloc b o row)
theorem only_store {a b : World} {g : Nat} (h : a.grownBy b (some g)) {p : Addr} (hp : p.block = g) (u : Value) : a.grownBy (b.setCell p u) (some g) :=
  only_trans h ⟨rfl, rfl, rfl, by simp [World.setCell], fun i _ hne => Below.heap_setCell b p u i (fun e => hne (by rw [e, hp]))⟩
theorem only_below {a b : World} {B : Nat} (h : Below B a b) (hB : a.heap.size ≤ B) (row : Option Nat) : a.grownBy b row :=
  ⟨h.os, h.tape, h.output, h.size, fun i hi _ => h.block i (Nat.lt_of_lt_of_le hi hB)⟩
theorem below_only {a b w : World} {B g : Nat} (h : Below B a b) (k : b.grownBy w (some g)) (hB : B ≤ b.heap.size) (hg : B ≤ g) : Below B a w :=
  h.grown k hB (fun x hx => by cases hx; exact hg)
theorem below_draws {B : Nat} {a w : World} (h : Below B a w) (n : Nat) : Below B a (w.drewN n) := ⟨h.os, h.tape, h.output, h.size, h.block⟩
theorem below_row {B g : Nat} {a w : World} (h : Below B a w) (hg : B ≤ g) (cs : Array Value) : Below B a (w.setRow g cs) :=
  ⟨h.os, h.tape, h.output, by simpa using h.size, fun k hk => by rw [setRow_other w g k cs (by omega)]; exact h.block k hk⟩

/-- A struct or an array that is made at once, its cells known as a whole. -/
theorem wpList_built {P : Program} {ops : Array Oper} {rest : List Oper} {o : Oper} {a : Act} {w : World} {Q : Exit → Act → World → Prop} (hg : o.guard = none) (t : TypeId) (parts : Array (Nat × Operand)) (ho : o.op = .build t parts)
    (cells : Array Value) (hc : P.built t (parts.map fun (i, x) => (i, a.eval x)).toList = some cells)
    (h : wpList P ops Q rest (a.put o.dst (.agg cells)) w) : wpList P ops Q (o :: rest) a w :=
  wpList_build hg t parts ho (by rw [hc]; rfl) (by rw [hc]; exact h)
theorem wpList_zeroed {P : Program} {ops : Array Oper} {rest : List Oper} {o : Oper} {a : Act} {w : World} {Q : Exit → Act → World → Prop} (hg : o.guard = none) (t : TypeId) (ho : o.op = .build t #[])
    (cells : Array Value) (hc : P.built t [] = some cells)
    (h : wpList P ops Q rest (a.put o.dst (.agg cells)) w) : wpList P ops Q (o :: rest) a w :=
  wpList_built hg t #[] ho cells (by simpa using hc) h

/-! A slice of the call's own, to which is appended. -/
theorem own_apart {w : World} {base : Nat} {e t : TypeId} {size n g : Nat} {v : Value} {xs : List Value} {cs : Array Value} (h : w.ownsRow base e size v n xs) (hg : Has w g t cs) (hne : e ≠ t) : v.ownBlock ≠ some g := by
  rcases h.2 with ⟨rfl, _⟩ | ⟨g', cap, cur, rfl, _, hh, _⟩
  · simp [Value.ownBlock]
  · intro he
    have e' : g' = g := by simpa [Value.ownBlock] using he
    subst e'
    exact Has.other (t := e) hh hg hne rfl
theorem own_keep {w w' : World} {base : Nat} {e : TypeId} {size n g : Nat} {v : Value} {xs : List Value} (h : w.ownsRow base e size v n xs) (hg : w.grownBy w' (some g)) (hne : v.ownBlock ≠ some g) : w'.ownsRow base e size v n xs :=
  h.kept hg (.inr hne)
theorem own_under {w w' : World} {base B : Nat} {e : TypeId} {size n : Nat} {v : Value} {xs : List Value} (h : w.ownsRow base e size v n xs) (hb : Below B w w') (hB : w.heap.size ≤ B) : w'.ownsRow base e size v n xs := by
  refine h.kept (row := none) (only_below hb hB none) ?_
  cases v.ownBlock with
  | none => exact .inl rfl
  | some k => exact .inr (by simp)
theorem own_shape {w : World} {base : Nat} {e : TypeId} {size n : Nat} {v : Value} {xs : List Value} (h : w.ownsRow base e size v n xs) : ∃ A c, v = .slice A n c := by
  rcases h.2 with ⟨rfl, rfl⟩ | ⟨g, cap, _, rfl, _⟩
  · exact ⟨none, 0, rfl⟩
  · exact ⟨_, _, rfl⟩
theorem below_own {a w w' : World} {B : Nat} {row : Option Nat} {base : Nat} {e : TypeId} {size n : Nat} {v : Value} {xs : List Value} (h : Below B a w) (hB : B ≤ w.heap.size) (ho : w.ownsRow base e size v n xs) (hbase : B ≤ base) (hr : row = v.ownBlock) (hg : w.grownBy w' row) : Below B a w' :=
  h.grown hg hB (fun k hk => Nat.le_trans hbase (ho.lt k (by rw [← hr, hk])).1)

theorem wpList_push {P : Program} {ops : Array Oper} {rest : List Oper} {o : Oper} {a : Act} {w : World} {Q : Exit → Act → World → Prop} (hgd : o.guard = none) (s x : Operand) (t : TypeId)
    (ho : o.op = .call { callee := .builtin .append, args := #[s, x], argTypes := #[t, t] })
    (base : Nat) (e : TypeId) (z : Value) (size bytes : Nat) (ht : P.underlying t = some (.slice e)) (hinfo : (P.info? e).map (fun i => (i.zero, i.size, i.bytes)) = some (some z, size, bytes))
    (hzs : z.cells.size = size) (hsz : 0 < size)
    (A : Option Addr) (n c : Nat) (xs : List Value) (hs : a.eval s = .slice A n c) (hown : Hid (w.ownsRow base e size (.slice A n c) n xs))
    (ad : Addr) (m cc : Nat) (news : List Value) (hx : a.eval x = .slice (some ad) m cc) (hl : Hid (news.length = m * size)) (hnews : Hid (∀ j u, news[j]? = some u → w.cell? (ad.add j) = some u)) (h1 : Hid (∀ u ∈ news, u.oneCell' = true))
    (hb : Hid (n + m ≤ maxLen ∧ (n + m) * bytes ≤ 140737488355328 ∧ base ≤ w.heap.size))
    (h : ∀ A' c' w', Hid (w'.ownsRow base e size (.slice A' (n + m) c') (n + m) (xs ++ news)) → Hid (w.grownBy w' (Value.ownBlock (.slice A n c))) →
      wpList P ops Q rest (a.put o.dst (.slice A' (n + m) c')) w') : wpList P ops Q (o :: rest) a w := by
  obtain ⟨i, hi, hz, hsize, hby⟩ := info_parts hinfo
  refine wpList_append_own_at w hgd s x t ho base e i z size bytes ht hi hz hsize hby hzs hsz (.slice A n c) n xs hs hown.out ad m cc news hx hl.out hnews.out h1.out hb.out.1 hb.out.2.1 hb.out.2.2 ?_
  intro v' w' h2 h3 _ _
  obtain ⟨A', c', rfl⟩ := own_shape h2
  exact h A' c' w' h2 h3

/-! A slice value that holds the cells vs (an element takes size cells), wherever it lies. -/
def Sl (w : World) (size : Nat) (A : Option Addr) (m c : Nat) (vs : List Value) : Prop :=
  vs.length = m * size ∧ (A = none → m = 0 ∧ c = 0) ∧ ∀ ad, A = some ad → ∀ j u, vs[j]? = some u → w.cell? (ad.add j) = some u
theorem sl_nil (w : World) (size : Nat) : Sl w size none 0 0 [] := ⟨by simp, fun _ => ⟨rfl, rfl⟩, fun _ h => by cases h⟩
theorem cell_block {w : World} {a : Addr} {v : Value} (h : w.cell? a = some v) : a.block < w.heap.size := by
  rcases Nat.lt_or_ge a.block w.heap.size with h1 | h1
  · exact h1
  · exfalso
    have hn : w.heap[a.block]? = none := Array.getElem?_eq_none h1
    simp [World.cell?, hn] at h
theorem Sl.under {w w' : World} {size : Nat} {A : Option Addr} {m c : Nat} {vs : List Value} (h : Sl w size A m c vs) (hb : Below w.heap.size w w') : Sl w' size A m c vs :=
  ⟨h.1, h.2.1, fun ad ha j u hu => by have h0 := h.2.2 ad ha j u hu; rw [hb.cell (cell_block h0)]; exact h0⟩
theorem Sl.beside {w : World} {size : Nat} {A : Option Addr} {m c : Nat} {vs : List Value} (h : Sl w size A m c vs) (o : Obj) : Sl (w.alloc o) size A m c vs :=
  h.under ((Below.refl _ _).alloc (Nat.le_refl _) o)
theorem Sl.draws {w : World} {size : Nat} {A : Option Addr} {m c : Nat} {vs : List Value} (h : Sl w size A m c vs) (n : Nat) : Sl (w.drewN n) size A m c vs := h
theorem Sl.at_ {w : World} {size : Nat} {A : Option Addr} {m c : Nat} {vs : List Value} (h : Sl w size A m c vs) {j : Nat} {u : Value} (hj : vs[j]? = some u) : ∃ b off, A = some ⟨b, off, none⟩ ∧ w.cell? ⟨b, off + j, none⟩ = some u := by
  cases A with
  | none =>
    have := h.1
    rw [(h.2.1 rfl).1] at this
    have e : vs = [] := List.eq_nil_of_length_eq_zero (by simpa using this)
    subst e
    simp at hj
  | some a =>
    obtain ⟨b, off, spot⟩ := a
    have h0 := h.2.2 _ rfl j u hj
    have hlt : 0 < vs.length := by have := (List.getElem?_eq_some_iff.1 hj).1; omega
    have h00 := h.2.2 _ rfl 0 _ (List.getElem?_eq_getElem hlt)
    have hspot : spot = none := by simpa [Addr.add] using World.cell?_spot h00
    subst hspot
    refine ⟨b, off, rfl, ?_⟩
    rw [← WideShapes.add_plain]
    exact h0
theorem Sl.of_own {w : World} {base : Nat} {e : TypeId} {size : Nat} {A : Option Addr} {m c : Nat} {vs : List Value} (h : w.ownsRow base e size (.slice A m c) m vs) : Sl w size A m c vs := by
  refine ⟨h.1, fun ha => ?_, fun ad ha j u hu => ?_⟩
  · subst ha
    rcases h.2 with ⟨e1, e2⟩ | ⟨g, cap, cur, e1, _⟩
    · injection e1 with _ _ e3
      exact ⟨e2, e3⟩
    · injection e1 with e1
      cases e1
  · subst ha
    rcases h.2 with ⟨e1, _⟩ | ⟨g, cap, cur, e1, _⟩
    · injection e1 with e1
      cases e1
    · injection e1 with e1
      injection e1 with e1
      subst e1
      exact h.cells rfl j u hu

theorem wpList_pour {P : Program} {ops : Array Oper} {rest : List Oper} {o : Oper} {a : Act} {w : World} {Q : Exit → Act → World → Prop} (hgd : o.guard = none) (s x : Operand) (t : TypeId)
    (ho : o.op = .call { callee := .builtin .append, args := #[s, x], argTypes := #[t, t] })
    (base : Nat) (e : TypeId) (z : Value) (size bytes : Nat) (ht : P.underlying t = some (.slice e)) (hinfo : (P.info? e).map (fun i => (i.zero, i.size, i.bytes)) = some (some z, size, bytes))
    (hzs : z.cells.size = size) (hsz : 0 < size)
    (A : Option Addr) (n c : Nat) (xs : List Value) (hs : a.eval s = .slice A n c) (hown : Hid (w.ownsRow base e size (.slice A n c) n xs))
    (B : Option Addr) (m cc : Nat) (news : List Value) (hx : a.eval x = .slice B m cc) (hl : Hid (Sl w size B m cc news)) (h1 : Hid (∀ u ∈ news, u.oneCell' = true))
    (hb : Hid (n + m ≤ maxLen ∧ (n + m) * bytes ≤ 140737488355328 ∧ base ≤ w.heap.size))
    (h : ∀ A' c' w', Hid (w'.ownsRow base e size (.slice A' (n + m) c') (n + m) (xs ++ news)) → Hid (w.grownBy w' (Value.ownBlock (.slice A n c))) →
      wpList P ops Q rest (a.put o.dst (.slice A' (n + m) c')) w') : wpList P ops Q (o :: rest) a w := by
  cases B with
  | none =>
    obtain ⟨rfl, rfl⟩ := hl.out.2.1 rfl
    have e0 : news = [] := List.eq_nil_of_length_eq_zero (by simpa using hl.out.1)
    subst e0
    obtain ⟨i, hi, _⟩ := info_parts hinfo
    exact wpList_append_own_none hgd s x t ho base e i size ht hi (.slice A n c) n xs hs hown.out hx (h A c w (show Hid _ by simpa using hown) (only_refl _ _))
  | some ad =>
    exact wpList_push hgd s x t ho base e z size bytes ht hinfo hzs hsz A n c xs hs hown ad m cc news hx hl.out.1 (hl.out.2.2 ad rfl) h1 hb h

/-- wpList_push, at a region that draws its order. -/
theorem step_push {P : Program} {ops : Array Oper} {o : Oper} {a : Act} {w : World} {K : Act → World → Prop} {Q : Exit → Act → World → Prop} {E : Prop} (hgd : o.guard = none) (s x : Operand) (t : TypeId)
    (ho : o.op = .call { callee := .builtin .append, args := #[s, x], argTypes := #[t, t] })
    (base : Nat) (e : TypeId) (z : Value) (size bytes : Nat) (ht : P.underlying t = some (.slice e)) (hinfo : (P.info? e).map (fun i => (i.zero, i.size, i.bytes)) = some (some z, size, bytes))
    (hzs : z.cells.size = size) (hsz : 0 < size)
    (A : Option Addr) (n c : Nat) (xs : List Value) (hs : a.eval s = .slice A n c) (hown : Hid (w.ownsRow base e size (.slice A n c) n xs))
    (ad : Addr) (m cc : Nat) (news : List Value) (hx : a.eval x = .slice (some ad) m cc) (hl : Hid (news.length = m * size)) (hnews : Hid (∀ j u, news[j]? = some u → w.cell? (ad.add j) = some u)) (h1 : Hid (∀ u ∈ news, u.oneCell' = true))
    (hb : Hid (n + m ≤ maxLen ∧ (n + m) * bytes ≤ 140737488355328 ∧ base ≤ w.heap.size))
    (h : ∀ A' c' w', Hid (w'.ownsRow base e size (.slice A' (n + m) c') (n + m) (xs ++ news)) → Hid (w.grownBy w' (Value.ownBlock (.slice A n c))) →
      K (a.put o.dst (.slice A' (n + m) c')) w') : if Region.wanted o (yielded ops a.tmps) = true then Oper.wp P o a w K Q else E := by
  have hw : Region.wanted o (yielded ops a.tmps) = true := by simp [Region.wanted, hgd]
  rw [if_pos hw]
  obtain ⟨i, hi, hz, hsize, hby⟩ := info_parts hinfo
  obtain ⟨v', w', hr, h2, h3, _, _⟩ := run_append_own_at (P := P) w base t o.type e i z size bytes ht hi hz hsize hby hzs hsz (.slice A n c) n xs hown.out ad m cc news hl.out hnews.out h1.out hb.out.1 hb.out.2.1 hb.out.2.2
  obtain ⟨A', c', rfl⟩ := own_shape h2
  unfold Oper.wp execOp
  simp only [ho, resolve, invoke, builtin, Sem.run_bind, Sem.run_pure, Result.andThen_ok, List.map_toArray, List.map_cons, List.map_nil, hs, hx, hr]
  exact h A' c' w' h2 h3

end Go.Proofs.Ytekcnmimfhiblaa

/-
  An append that says where the new row lies.
-/
namespace Go.Proofs.Ytekcnmimfhiblaa
open Go.RowKit

theorem wpList_push2 {P : Program} {ops : Array Oper} {rest : List Oper} {o : Oper} {a : Act} {w : World} {Q : Exit → Act → World → Prop} (hgd : o.guard = none) (s x : Operand) (t : TypeId)
    (ho : o.op = .call { callee := .builtin .append, args := #[s, x], argTypes := #[t, t] })
    (base : Nat) (e : TypeId) (z : Value) (size bytes : Nat) (ht : P.underlying t = some (.slice e)) (hinfo : (P.info? e).map (fun i => (i.zero, i.size, i.bytes)) = some (some z, size, bytes))
    (hzs : z.cells.size = size) (hsz : 0 < size)
    (A : Option Addr) (n c : Nat) (xs : List Value) (hs : a.eval s = .slice A n c) (hown : Hid (w.ownsRow base e size (.slice A n c) n xs))
    (ad : Addr) (m cc : Nat) (news : List Value) (hx : a.eval x = .slice (some ad) m cc) (hl : Hid (news.length = m * size)) (hnews : Hid (∀ j u, news[j]? = some u → w.cell? (ad.add j) = some u)) (h1 : Hid (∀ u ∈ news, u.oneCell' = true))
    (hb : Hid (n + m ≤ maxLen ∧ (n + m) * bytes ≤ 140737488355328 ∧ base ≤ w.heap.size))
    (h : ∀ A' c' w', Hid (w'.ownsRow base e size (.slice A' (n + m) c') (n + m) (xs ++ news)) → Hid (w.grownBy w' (Value.ownBlock (.slice A n c))) → Hid (Value.ownBlock (.slice A' (n + m) c') = Value.ownBlock (.slice A n c) ∨ Value.ownBlock (.slice A' (n + m) c') = some w.heap.size) →
      wpList P ops Q rest (a.put o.dst (.slice A' (n + m) c')) w') : wpList P ops Q (o :: rest) a w := by
  obtain ⟨i, hi, hz, hsize, hby⟩ := info_parts hinfo
  refine wpList_append_own_at w hgd s x t ho base e i z size bytes ht hi hz hsize hby hzs hsz (.slice A n c) n xs hs hown.out ad m cc news hx hl.out hnews.out h1.out hb.out.1 hb.out.2.1 hb.out.2.2 ?_
  intro v' w' h2 h3 _ h5
  obtain ⟨A', c', rfl⟩ := own_shape h2
  exact h A' c' w' h2 h3 h5

end Go.Proofs.Ytekcnmimfhiblaa

/-
  What an argument that came in reads as: words of our own for slices.
-/
namespace Go.Proofs.Ytekcnmimfhiblaa
open Go.ChangeShapes Go.WideShapes Go.ChangeAt Go.RowKit Go.Deep

/-- A slice that came in, of n integers of kind k: its elements are zs. -/
def InInts (k : IntKind) (w : World) (A : Option Addr) (n : Nat) (zs : List Int) : Prop :=
  zs.length = n ∧ n ≤ maxLen ∧ (0 < n → ∃ ad : Addr, A = some ad ∧ ∀ i, i < n → w.cell? (ad.add i) = some (.int k (zs.getD i 0))) ∧ ∀ z ∈ zs, (Lit.int k z).wf = true
theorem inInts_nil (k : IntKind) (w : World) (A : Option Addr) : InInts k w A 0 [] := ⟨rfl, by unfold maxLen; omega, fun h => absurd h (by omega), fun z hz => by simp at hz⟩
theorem inInts_of {k : IntKind} {w : World} {x : Addr} {n c : Nat} {zs : List Int} (hl : n ≤ c) (hm : c ≤ maxLen) (hz : zs.length = c)
    (hcell : ∀ i, i < zs.length → w.cell? (x.add i) = some (.int k (zs.getD i 0))) (hwz : ∀ z ∈ zs, (Lit.int k z).wf = true) : InInts k w (some x) n (zs.take n) := by
  refine ⟨by simp; omega, by omega, fun _ => ⟨x, rfl, fun i hi => ?_⟩, fun z h => hwz z (List.mem_of_mem_take h)⟩
  rw [hcell i (by omega)]
  simp [List.getD_eq_getElem?_getD, hi]

theorem ints_low {k : IntKind} {w wr : World} {A : Option Addr} {n : Nat} {zs : List Int} (h : InInts k w A n zs) (hb : Below w.heap.size w wr) {j : Nat} (hj : j < n) :
    ∃ b off, A = some ⟨b, off, none⟩ ∧ wr.cell? ⟨b, off + j, none⟩ = some (.int k (zs.getD j 0)) := by
  obtain ⟨⟨b, off, spot⟩, rfl, hc⟩ := h.2.2.1 (by omega)
  have hspot : spot = none := by simpa [Addr.add] using World.cell?_spot (hc 0 (by omega))
  subst hspot
  refine ⟨b, off, rfl, ?_⟩
  have h0 := hc j hj
  rw [Go.WideShapes.add_plain] at h0
  rw [hb.cell (cell_block h0)]
  exact h0

end Go.Proofs.Ytekcnmimfhiblaa

/-
  Bytes in memory: a slice that holds some bytes; the text that they are; an argument of bytes.
-/
namespace Go.Proofs.Ytekcnmimfhiblaa
open Go.RowKit Go.ChangeAt

def u8s (l : List Nat) : List Value := l.map fun (n : Nat) => Value.int .u8 (n : Int)
theorem u8s_length (l : List Nat) : (u8s l).length = l.length := by simp [u8s]

theorem u8s_one (l : List Nat) : ∀ v ∈ u8s l, v.oneCell' = true := by
  intro v hv
  simp only [u8s, List.mem_map] at hv
  obtain ⟨n, _, rfl⟩ := hv
  rfl
theorem made_row (w : World) (z : Value) (n : Nat) (t : TypeId) : Has (w.alloc (.cells (madeCells #[z] n) t)) w.heap.size t (List.replicate n z).toArray := by
  have e : madeCells #[z] n = (List.replicate n z).toArray := by
    apply Array.toList_inj.1
    rw [toList_madeCells_one]
  rw [e]
  exact Has.made w t _
theorem splice_all {α : Type} (L cs : List α) (h : cs.length = L.length) : splice L 0 cs = cs := by
  simp [splice, h]

theorem info_u8 : (Try.prog.info? 5).map (fun i => (i.zero, i.size, i.bytes)) = some (some (.int .u8 0), 1, 1) := by kernel_rfl
theorem size_u8 : (Try.prog.info? 5).map (·.size) = some 1 := by kernel_rfl

/-- The slice's array holds the bytes xs, wherever it lies. -/
def At8 (w : World) (A : Option Addr) (xs : List Nat) : Prop := 0 < xs.length → ∃ ad, A = some ad ∧ ∀ j v, (u8s xs)[j]? = some v → w.cell? (ad.add j) = some v

theorem At8.of_has {w : World} {g : Nat} {xs : List Nat} (h : Has w g 5 (u8s xs).toArray) : At8 w (some ⟨g, 0, none⟩) xs := by
  intro _
  refine ⟨⟨g, 0, none⟩, rfl, fun j v hv => ?_⟩
  have e : (⟨g, 0, none⟩ : Addr).add j = ⟨g, j, none⟩ := by unfold Addr.add; split <;> simp_all
  rw [e, h.cell]
  simpa using hv

theorem at8_alloc {w : World} {A : Option Addr} {xs : List Nat} (h : At8 w A xs) (o : Obj) : At8 (w.alloc o) A xs := by
  intro hpos
  obtain ⟨ad, e, hc⟩ := h hpos
  refine ⟨ad, e, fun j v hv => ?_⟩
  have := hc j v hv
  have hlt : (ad.add j).block < w.heap.size := by
    rcases Nat.lt_or_ge (ad.add j).block w.heap.size with h1 | h1
    · exact h1
    · exfalso
      have hn : w.heap[(ad.add j).block]? = none := Array.getElem?_eq_none h1
      simp [World.cell?, hn] at this
  rw [World.cell?_alloc_lt w o _ hlt]
  exact this

/-- The text that some bytes are. -/
def str8 (xs : List Nat) : ByteArray := ⟨(xs.map fun n => UInt8.ofNat n).toArray⟩
theorem conv8 (A : Option Addr) (c : Nat) (xs : List Nat) (w : World) (h : At8 w A xs) :
    (convert 27 9 (.slice A xs.length c)).run Try.prog w = .ok (.string (str8 xs)) w := by
  cases xs with
  | nil =>
    show (convert 27 9 (.slice A 0 c)).run Try.prog w = _
    rw [run_convert_bytes_string w 27 9 5 A 0 c Try.underlying27 Try.underlying5 Try.underlying9]
    cases A with
    | none => simp [Conv.bytesToString, str8]; rfl
    | some a => rw [run_bytesToString w a 0 c [] (by simpa using run_loadCells_list (P := Try.prog) w a [] (fun j v hj => by simp at hj))]; rfl
  | cons x r =>
    obtain ⟨ad, rfl, hc⟩ := h (by simp)
    have hl := run_loadCells_list (P := Try.prog) w ad ((((x :: r).map fun (n : Nat) => (n : Int))).map (Value.int .u8)) (fun j v hj => hc j v (by simpa [u8s, Function.comp_def] using hj))
    rw [run_convert_bytes_string w 27 9 5 _ _ c Try.underlying27 Try.underlying5 Try.underlying9]
    rw [run_bytesToString w ad _ c ((x :: r).map fun (n : Nat) => (n : Int)) (by simpa using hl), foldl_push_bytes]
    simp [str8]

theorem str8_size (xs : List Nat) : (str8 xs).size = xs.length := by simp [str8, ByteArray.size]
theorem back8 (xs : List Nat) (W : World) :
    (convert 9 27 (.string (str8 xs))).run Try.prog W = .ok (.slice (some ⟨W.heap.size, 0, none⟩) xs.length (grownCap W xs.length 0 5)) (Lib.bytesWorld W 5 (str8 xs)) := by
  rw [Lib.run_convert_string_bytes W 9 27 5 (str8 xs) Try.underlying9 Try.underlying27 Try.underlying5, str8_size]
theorem below_back8 (xs : List Nat) (W : World) : Below W.heap.size W (Lib.bytesWorld W 5 (str8 xs)) :=
  ⟨rfl, rfl, rfl, by rw [Lib.bytesWorld_size]; omega, fun k hk => Lib.bytesWorld_at_old W _ _ k hk⟩
theorem at8_back8 (xs : List Nat) (hb : ∀ x ∈ xs, x < 256) (W : World) : At8 (Lib.bytesWorld W 5 (str8 xs)) (some ⟨W.heap.size, 0, none⟩) xs := by
  intro _
  refine ⟨_, rfl, fun j v hv => ?_⟩
  have hj : j < xs.length := by
    have := (List.getElem?_eq_some_iff.1 hv).1
    rwa [u8s_length] at this
  have e : (⟨W.heap.size, 0, none⟩ : Addr).add j = ⟨W.heap.size, j, none⟩ := by unfold Addr.add; split <;> simp_all
  rw [e, Lib.bytesWorld_cell W _ _ j (by rw [str8_size]; exact hj), ← hv]
  have hx := hb xs[j] (List.getElem_mem _)
  simp [str8, u8s, hj]
  omega

/-- An argument of n bytes. -/
def InBytes (w : World) (A : Option Addr) (n : Nat) (xs : List Nat) : Prop := xs.length = n ∧ n ≤ maxLen ∧ At8 w A xs ∧ ∀ x ∈ xs, x < 256
theorem InInts.bytes {w : World} {A : Option Addr} {n : Nat} {zs : List Int} (h : InInts .u8 w A n zs) : InBytes w A n (zs.map Int.toNat) := by
  obtain ⟨hl, hm, hc, hwz⟩ := h
  have hb : ∀ z ∈ zs, 0 ≤ z ∧ z ≤ 255 := fun z hz => by have := hwz z hz; simpa [Lit.wf, IntKind.min, IntKind.max, IntKind.signed, IntKind.bits] using this
  refine ⟨by simpa using hl, hm, fun hpos => ?_, fun x hx => ?_⟩
  · obtain ⟨ad, e, hcell⟩ := hc (by simp at hpos; omega)
    refine ⟨ad, e, fun j v hv => ?_⟩
    have hj : j < n := by
      have := (List.getElem?_eq_some_iff.1 hv).1
      simp [u8s] at this
      omega
    have hj' : j < zs.length := by omega
    rw [hcell j hj, ← hv]
    have := hb zs[j] (List.getElem_mem _)
    simp [u8s, List.getD_eq_getElem?_getD, hj']
    omega
  · simp only [List.mem_map] at hx
    obtain ⟨z, hz, rfl⟩ := hx
    have := hb z hz
    omega

end Go.Proofs.Ytekcnmimfhiblaa

/-
  Bytes: small words of our own.
-/
namespace Go.Proofs.Ytekcnmimfhiblaa
open Go.RowKit

theorem xor8 {a b : Nat} (ha : a < 256) (hb : b < 256) : a ^^^ b < 256 := Nat.xor_lt_two_pow (n := 8) ha hb
theorem u8s_set (l : List Nat) (i v : Nat) : u8s (l.set i v) = (u8s l).set i (.int .u8 (v : Nat)) := by simp [u8s, List.map_set]
theorem xor8i {p q : Nat} (hp : p < 256) (hq : q < 256) : bits .xor .u8 (p : Int) (q : Int) = ((p ^^^ q : Nat) : Int) := u8_xor_nat p q hp hq
theorem str8_beq {a b : List Nat} (ha : bytes8 a) (hb : bytes8 b) : ((str8 a).toList == (str8 b).toList) = decide (a = b) := by
  rw [ByteArray.toList_eq, ByteArray.toList_eq]
  have hi : (str8 a).data.toList = (str8 b).data.toList ↔ a = b := by
    refine ⟨fun h => ?_, fun h => by rw [h]⟩
    have hm : ∀ l : List Nat, bytes8 l → ((str8 l).data.toList.map fun u => u.toNat) = l := fun l hl => by
      simp only [str8, List.map_map]
      conv => rhs; rw [← List.map_id l]
      exact List.map_congr_left fun x hx => by have := hl x hx; simp; omega
    rw [← hm a ha, ← hm b hb, h]
  by_cases h : a = b
  · simp [h]
  · rw [decide_eq_false h, beq_eq_false_iff_ne]; exact fun e => h (hi.1 e)
theorem below_own0 {w w' : World} (h : w.grownBy w' (Value.slice none 0 0).ownBlock) : Below w.heap.size w w' :=
  ⟨h.os, h.tape, h.output, h.size, fun k hk => h.block k hk (by simp [Value.ownBlock])⟩
theorem own_first {w : World} {base : Nat} {e : TypeId} {size n c : Nat} {A : Option Addr} {xs : List Value} (h : w.ownsRow base e size (.slice A n c) n xs) (hn : 0 < n) : ∃ g, A = some ⟨g, 0, none⟩ ∧ base ≤ g := by
  rcases h.2 with ⟨e1, e2⟩ | ⟨g, cap, cur, e1, hb, _⟩
  · omega
  · injection e1 with e1
    exact ⟨g, e1, hb⟩
theorem u8s_at (l : List Nat) {i : Nat} (h : i < l.length) : (u8s l)[i]? = some (.int .u8 (l.getD i 0 : Nat)) := by
  simp [u8s, List.getD_eq_getElem?_getD, h]
theorem at8_own {w : World} {base c : Nat} {A : Option Addr} {xs : List Nat} (h : w.ownsRow base 5 1 (.slice A xs.length c) xs.length (u8s xs)) : At8 w A xs := by
  intro hp
  obtain ⟨g, rfl, _⟩ := own_first h hp
  exact ⟨_, rfl, fun j v hv => (Sl.of_own h).2.2 _ rfl j v hv⟩
theorem sl_bytes {w : World} {A : Option Addr} {c : Nat} {xs : List Nat} (h : At8 w A xs) (hn : A = none → c = 0) : Sl w 1 A xs.length c (u8s xs) := by
  refine ⟨by simp [u8s_length], fun ha => ?_, fun ad ha j u hu => ?_⟩
  · refine ⟨?_, hn ha⟩
    rcases Nat.eq_zero_or_pos xs.length with h0 | h0
    · exact h0
    · obtain ⟨ad, e, _⟩ := h h0
      rw [ha] at e; cases e
  · have hj := (List.getElem?_eq_some_iff.1 hu).1
    rw [u8s_length] at hj
    obtain ⟨ad', e, hc⟩ := h (by omega)
    rw [ha] at e; cases e
    exact hc j u hu

theorem u8s_app (a b : List Nat) : u8s (a ++ b) = u8s a ++ u8s b := by simp [u8s]
theorem u8s_zeros (m : Nat) : u8s (List.replicate m 0) = List.replicate m (.int .u8 0) := by simp [u8s]
theorem bytes8_app {a b : List Nat} (ha : bytes8 a) (hb : bytes8 b) : bytes8 (a ++ b) := by
  intro x hx
  rcases List.mem_append.1 hx with h | h
  · exact ha x h
  · exact hb x h
theorem bytes8_zeros (m : Nat) : bytes8 (List.replicate m 0) := by
  intro x hx
  rw [List.eq_of_mem_replicate hx]; decide
end Go.Proofs.Ytekcnmimfhiblaa

/-
  A slice of a slice, where an element is one cell: its run as an equation; what it holds.
-/
namespace Go.Proofs.Ytekcnmimfhiblaa
open Go.RowKit

theorem cut_from {P : Program} (t e : TypeId) (h : P.underlying t = some (.slice e)) (_he : P.elem t = e) (hs : (P.info? e).map (·.size) = some 1) (A : Option Addr) (n c p : Nat) (hp : p ≤ n) (w : World) :
    (Instr.sliceAt t (.slice A n c) (some (.int .i64 (p : Nat))) none none).run P w = .ok (.slice (if c = p then A else A.map (·.add (p * 1))) (n - p) (c - p)) w := by
  have e1 : (sizeOf e).run P w = .ok 1 w := by
    cases hi : P.info? e with
    | none => rw [hi] at hs; cases hs
    | some i =>
      rw [hi] at hs
      simp only [Option.map_some, Option.some.injEq] at hs
      simp [sizeOf, run_typeInfo _ hi, hs]
  have h0 : (0 : Int) ≤ (p : Nat) := by omega
  have h1 : ((p : Nat) : Int) ≤ (n : Nat) := by omega
  simp [Instr.sliceAt, Instr.slice, run_underlying h, Instr.sliceBounds, run_sliceBound, h0, h1, e1]
theorem cut_to {P : Program} (t e : TypeId) (h : P.underlying t = some (.slice e)) (_he : P.elem t = e) (hs : (P.info? e).map (·.size) = some 1) (A : Option Addr) (n c p : Nat) (hp : p ≤ c) (w : World) :
    (Instr.sliceAt t (.slice A n c) none (some (.int .i64 (p : Nat))) none).run P w = .ok (.slice (if c = 0 then A else A.map (·.add (0 * 1))) p c) w := by
  have e1 : (sizeOf e).run P w = .ok 1 w := by
    cases hi : P.info? e with
    | none => rw [hi] at hs; cases hs
    | some i =>
      rw [hi] at hs
      simp only [Option.map_some, Option.some.injEq] at hs
      simp [sizeOf, run_typeInfo _ hi, hs]
  have h0 : (0 : Int) ≤ (p : Nat) := by omega
  have h1 : ((p : Nat) : Int) ≤ (c : Nat) := by omega
  simp [Instr.sliceAt, Instr.slice, run_underlying h, Instr.sliceBounds, run_sliceBound, h0, h1, e1]

/-- What stands from place p on. -/
theorem Sl.from_ {w : World} {A : Option Addr} {n c : Nat} {vs : List Value} (h : Sl w 1 A n c vs) (hc : n ≤ c) {p : Nat} (hp : p ≤ n) : Sl w 1 (if c = p then A else A.map (·.add (p * 1))) (n - p) (c - p) (vs.drop p) := by
  have hl : vs.length = n := by have := h.1; omega
  refine ⟨by rw [List.length_drop]; omega, fun e => ?_, fun ad ha j u hu => ?_⟩
  · cases A with
    | none => have := h.2.1 rfl; omega
    | some a =>
      rw [Option.map_some] at e
      split at e <;> cases e
  · have hj : j < n - p := by
      have := (List.getElem?_eq_some_iff.1 hu).1
      rw [List.length_drop] at this
      omega
    rw [List.getElem?_drop] at hu
    rw [if_neg (by omega)] at ha
    cases A with
    | none => cases ha
    | some a =>
      rw [Option.map_some] at ha
      injection ha with ha
      subst ha
      have h0 := h.2.2 a rfl (p + j) u hu
      have e : (a.add (p * 1)).add j = a.add (p + j) := by
        unfold Addr.add
        by_cases h1 : p = 0
        · subst h1; simp
        · by_cases h2 : j = 0
          · subst h2; simp [h1]
          · simp [h1, h2, Nat.add_assoc]
      rw [e]
      exact h0
/-- What stands ahead of place p. -/
theorem Sl.to_ {w : World} {A : Option Addr} {n c : Nat} {vs : List Value} (h : Sl w 1 A n c vs) {p : Nat} (hp : p ≤ n) : Sl w 1 (if c = 0 then A else A.map (·.add (0 * 1))) p c (vs.take p) := by
  have hl : vs.length = n := by have := h.1; omega
  refine ⟨by rw [List.length_take]; omega, fun e => ?_, fun ad ha j u hu => ?_⟩
  · cases A with
    | none => have := h.2.1 rfl; omega
    | some a =>
      rw [Option.map_some] at e
      split at e <;> cases e
  · have hj : j < p := by
      have := (List.getElem?_eq_some_iff.1 hu).1
      rw [List.length_take] at this
      omega
    rw [List.getElem?_take_of_lt hj] at hu
    cases A with
    | none => split at ha <;> cases ha
    | some a =>
      rw [Option.map_some] at ha
      have e : (a.add (0 * 1)) = a := by unfold Addr.add; simp
      rw [e] at ha
      have ha' : ad = a := by split at ha <;> (injection ha with ha; exact ha.symm)
      subst ha'
      exact h.2.2 ad rfl j u hu
/-- Its address lies in the block of what it was cut from. -/
theorem from_block {A : Option Addr} {c p : Nat} : ∀ a', (if c = p then A else A.map (·.add (p * 1))) = some a' → ∃ a, A = some a ∧ a'.block = a.block := by
  intro a' h
  cases A with
  | none => split at h <;> cases h
  | some a =>
    refine ⟨a, rfl, ?_⟩
    rw [Option.map_some] at h
    split at h <;> (injection h with h; rw [← h])
    unfold Addr.add
    split <;> rfl
end Go.Proofs.Ytekcnmimfhiblaa

/-
  Small words for structs in memory: a struct handed back with a word beside it; slices cut in their midst; an append of a slice in a region that draws.
-/
namespace Go.Proofs.Ytekcnmimfhiblaa
open Go.RowKit

theorem results_row_tmp9 {P : Program} {fn : Func} {p u : Tmp} {ty : TypeId} (h : fn.results = #[.cell p ty, .tmp u]) (tmps : Array Value) (w : World) (g : Nat) (t : TypeId) (cs : Array Value) (d : TypeDesc)
    (hp : tmps.getD p undef = .pointer (some ⟨g, 0, none⟩)) (hg : w.heap[g]? = some (.cells cs t (0, 0)))
    (hu : P.underlying ty = some d) (hd : (match d with | .struct _ | .array _ _ => true | _ => false) = true) (hi : (P.info? ty).map (·.size) = some cs.size) :
    (results fn tmps).run P w = .ok (.tuple #[.agg cs, tmps.getD u undef]) w := by
  rw [results_cell_tmp h, hp]
  simp [asAddr, run_loadVar_row w g t ty cs (0, 0) d hg hu hd hi]

theorem cut_mid9 {P : Program} (t e : TypeId) (h : P.underlying t = some (.slice e)) (hs : (P.info? e).map (·.size) = some 1) (A : Option Addr) (n c p q : Nat) (hp : p ≤ q) (hq : q ≤ c) (w : World) :
    (Instr.sliceAt t (.slice A n c) (some (.int .i64 (p : Nat))) (some (.int .i64 (q : Nat))) none).run P w = .ok (.slice (if c = p then A else A.map (·.add (p * 1))) (q - p) (c - p)) w := by
  have e1 : (sizeOf e).run P w = .ok 1 w := by
    cases hi : P.info? e with
    | none => rw [hi] at hs; cases hs
    | some i =>
      rw [hi] at hs
      simp only [Option.map_some, Option.some.injEq] at hs
      simp [sizeOf, run_typeInfo _ hi, hs]
  have h0 : (0 : Int) ≤ (p : Nat) := by omega
  have h1 : ((p : Nat) : Int) ≤ (q : Nat) := by omega
  have h2 : (0 : Int) ≤ (q : Nat) := by omega
  have h3 : ((q : Nat) : Int) ≤ (c : Nat) := by omega
  simp [Instr.sliceAt, Instr.slice, run_underlying h, Instr.sliceBounds, run_sliceBound, h0, h1, h2, h3, e1]
theorem sl_short9 {w : World} {A : Option Addr} {n c : Nat} {vs : List Value} (h : Sl w 1 A n c vs) {q : Nat} (hq : q ≤ n) : Sl w 1 A q c (vs.take q) := by
  have hl : vs.length = n := by have := h.1; omega
  refine ⟨by rw [List.length_take]; omega, fun e => ?_, fun ad ha j u hu => ?_⟩
  · have := h.2.1 e
    omega
  · have hj : j < q := by
      have := (List.getElem?_eq_some_iff.1 hu).1
      rw [List.length_take] at this
      omega
    rw [List.getElem?_take_of_lt hj] at hu
    exact h.2.2 ad ha j u hu
theorem sl_mid9 {w : World} {A : Option Addr} {n c : Nat} {vs : List Value} (h : Sl w 1 A n c vs) (hc : n ≤ c) {p q : Nat} (hp : p ≤ q) (hq : q ≤ n) : Sl w 1 (if c = p then A else A.map (·.add (p * 1))) (q - p) (c - p) ((vs.take q).drop p) :=
  (sl_short9 h hq).from_ (by omega) hp
theorem u8s_mid (l : List Nat) (p q : Nat) : ((u8s l).take q).drop p = u8s ((l.take q).drop p) := by simp [u8s, List.map_take, List.map_drop]

/-- wpList_pour, at a region that draws its order. -/
theorem step_pour9 {P : Program} {ops : Array Oper} {o : Oper} {a : Act} {w : World} {K : Act → World → Prop} {Q : Exit → Act → World → Prop} {E : Prop} (hgd : o.guard = none) (s x : Operand) (t : TypeId)
    (ho : o.op = .call { callee := .builtin .append, args := #[s, x], argTypes := #[t, t] })
    (base : Nat) (e : TypeId) (z : Value) (size bytes : Nat) (ht : P.underlying t = some (.slice e)) (hinfo : (P.info? e).map (fun i => (i.zero, i.size, i.bytes)) = some (some z, size, bytes))
    (hzs : z.cells.size = size) (hsz : 0 < size)
    (A : Option Addr) (n c : Nat) (xs : List Value) (hs : a.eval s = .slice A n c) (hown : Hid (w.ownsRow base e size (.slice A n c) n xs))
    (B : Option Addr) (m cc : Nat) (news : List Value) (hx : a.eval x = .slice B m cc) (hl : Hid (Sl w size B m cc news)) (h1 : Hid (∀ u ∈ news, u.oneCell' = true))
    (hb : Hid (n + m ≤ maxLen ∧ (n + m) * bytes ≤ 140737488355328 ∧ base ≤ w.heap.size))
    (h : ∀ A' c' w', Hid (w'.ownsRow base e size (.slice A' (n + m) c') (n + m) (xs ++ news)) → Hid (w.grownBy w' (Value.ownBlock (.slice A n c))) →
      K (a.put o.dst (.slice A' (n + m) c')) w') : if Region.wanted o (yielded ops a.tmps) = true then Oper.wp P o a w K Q else E := by
  cases B with
  | none =>
    obtain ⟨rfl, rfl⟩ := hl.out.2.1 rfl
    have e0 : news = [] := List.eq_nil_of_length_eq_zero (by simpa using hl.out.1)
    subst e0
    have hw : Region.wanted o (yielded ops a.tmps) = true := by simp [Region.wanted, hgd]
    rw [if_pos hw]
    obtain ⟨i, hi, _⟩ := info_parts hinfo
    have hr := run_append_owned_none (P := P) (w := w) base t o.type e i size ht hi (.slice A n c) n xs hown.out
    unfold Oper.wp execOp
    simp only [ho, resolve, invoke, builtin, Sem.run_bind, Sem.run_pure, Result.andThen_ok, List.map_toArray, List.map_cons, List.map_nil, hs, hx, hr]
    exact h A c w (show Hid _ by simpa using hown) (only_refl _ _)
  | some ad =>
    exact step_push hgd s x t ho base e z size bytes ht hinfo hzs hsz A n c xs hs hown ad m cc news hx hl.out.1 (hl.out.2.2 ad rfl) h1 hb h
theorem only_row (w : World) (g : Nat) (cs : Array Value) : w.grownBy (w.setRow g cs) (some g) :=
  ⟨rfl, rfl, rfl, by simp, fun k _ hk => setRow_other w g k cs (fun e => hk (by rw [e]))⟩
theorem own_past {w : World} {base : Nat} {e : TypeId} {size n c B : Nat} {A : Option Addr} {xs : List Value} (h : w.ownsRow base e size (.slice A n c) n xs) {a : Addr} (ha : A = some a) (hB : B < base) : B < a.block := by
  subst ha
  rcases h.2 with ⟨e1, _⟩ | ⟨g, cap, cur, e1, hb, _⟩
  · injection e1 with e1
    cases e1
  · injection e1 with e1
    injection e1 with e1
    subst e1
    show B < g
    omega
theorem own_cap9 {w : World} {base : Nat} {e : TypeId} {size n c : Nat} {A : Option Addr} {xs : List Value} (h : w.ownsRow base e size (.slice A n c) n xs) : n ≤ c := by
  rcases h.2 with ⟨e1, e2⟩ | ⟨g, cap, cur, e1, _, _, hc, _⟩
  · omega
  · injection e1 with _ _ e3
    omega
theorem Has.raw {w : World} {g : Nat} {t : TypeId} {cs : Array Value} (h : Has w g t cs) : w.heap[g]? = some (.cells cs t (0, 0)) := h
theorem below_dr {B : Nat} {a w : World} (h : Below B a w) : Below B a w.drew := ⟨h.os, h.tape, h.output, h.size, h.block⟩
theorem cell_beside {w : World} {a : Addr} {v : Value} {o : Obj} (h : w.cell? a = some v) : (w.alloc o).cell? a = some v := by
  rw [World.cell?_alloc_lt w o _ (cell_block h)]; exact h
theorem sl_below {w w' : World} {s : Nat} {A : Option Addr} {m c : Nat} {vs : List Value} {B : Nat} (h : Sl w s A m c vs) (hb : Below B w w') (hB : w.heap.size ≤ B) : Sl w' s A m c vs :=
  h.under ⟨hb.os, hb.tape, hb.output, hb.size, fun k hk => hb.block k (by omega)⟩
theorem sl_at8 {w : World} {A : Option Addr} {n c : Nat} {xs : List Nat} (h : Sl w 1 A n c (u8s xs)) : At8 w A xs := by
  intro hp
  cases A with
  | none =>
    have h1 := h.1
    have h2 := h.2.1 rfl
    rw [u8s_length] at h1
    omega
  | some ad => exact ⟨ad, rfl, fun j v hv => h.2.2 ad rfl j v hv⟩
end Go.Proofs.Ytekcnmimfhiblaa

/-
  A region that draws its order: the condition on the world may be made stronger on the way.
-/
namespace Go.Proofs.Ytekcnmimfhiblaa
open Go.RowKit

theorem wpAnyH_more {P : Program} {ops : Array Oper} {Q : Exit → Act → World → Prop} {md : Region.Mode} {S T : World → Prop} (hST : ∀ w, T w → S w) :
    ∀ {fuel : Nat} {listed : Array Bool} {a : Act} {w : World}, wpAnyH P md ops Q T fuel listed a w → wpAnyH P md ops Q S fuel listed a w
  | 0, _, _, _, h => h
  | _ + 1, _, _, _, h => ⟨h.1, fun i hi => wpOp_mono (fun _ _ h' => ⟨hST _ h'.1, wpAnyH_more hST h'.2⟩) (h.2 i hi)⟩
/-- A load of a whole struct, in a region whose condition names its block. -/
theorem yields_load_row9 {P : Program} {ops : Array Oper} {S : World → Prop} {o : Oper} {a : Act} (_hgd : o.guard = none) (ty : TypeId) (x : Operand) (ho : o.op = .load ty x) (g : Nat) (hx : a.eval x = .pointer (some ⟨g, 0, none⟩)) (t : TypeId) (cs : Array Value) (d : TypeDesc)
    (hS : ∀ w, S w → Has w g t cs) (hu : P.underlying ty = some d) (hd : (match d with | .struct _ | .array _ _ => true | _ => false) = true) (hi : (P.info? ty).map (·.size) = some cs.size) (hw : Region.wanted o (yielded ops a.tmps) = true) : YieldsIf P ops S o (.agg cs) a := by
  refine .inl ⟨hw, fun w h => ?_⟩
  unfold execOp
  simp only [ho, hx, Instr.loadAt, Instr.sureAddr, Sem.run_bind, Sem.run_pure, Result.andThen_ok, run_loadVar_row w g t ty cs (0, 0) d (hS w h) hu hd hi]
end Go.Proofs.Ytekcnmimfhiblaa
