/-
  Mem, Open, Bytes8, BitsMath, BitsLeaf, BitsOps, BitsPut, BitsBytes: merged.
-/
import Derived.Test.YtamnhnleipnhdaaDoorRows
import Derived.WalkKit
import Derived.WalkSpells
import Derived.WalkLawsBesides
import Derived.Deep.Draws
import Derived.Laws.Rows
import Derived.Laws.Tables
import Derived.Maps.AppendAt
import Derived.OwnWalk
import Derived.Laws.AppendOwnNone
import Derived.Lib.Hide
import Derived.ProofKit
import Derived.OpenShut
import Derived.Deep.Slices
import Derived.Lib.SmallJoins
import Derived.Laws.CopyOwn
import Derived.Deep.OwnRows
import Derived.Laws.BytesArg
import Derived.Lib.ConvBytes
import Derived.Below
import Derived.Laws.BitsAllLaws
import Derived.StillTailTactics

/-
  Small words of our own on memory: a block whose cells are all known; what keeps it.
-/
namespace Go.Proofs.YtamnhnleipnhdaaDoor

open Go.RowKit

/-- Block g holds just the cells cs, of element type t, none of them frozen. -/
def Has (w : World) (g : Nat) (t : TypeId) (cs : Array Value) : Prop := w.heap[g]? = some (.cells cs t (0, 0))

section

variable {w w' : World} {g : Nat} {t : TypeId} {cs : Array Value}
theorem Has.lt (h : Has w g t cs) : g < w.heap.size := (Array.getElem?_eq_some_iff.1 h).1
theorem Has.cell (h : Has w g t cs) (i : Nat) : w.cell? ⟨g, i, none⟩ = cs[i]? := cell_of_row w g i cs t (0, 0) h
theorem Has.thaw (h : Has w g t cs) (i : Nat) : w.frozen? ⟨g, i, none⟩ = false := by unfold Has at h; simp [World.frozen?, h]
theorem Has.made (w : World) (t : TypeId) (cs : Array Value) : Has (w.alloc (.cells cs t)) w.heap.size t cs := heap_alloc_new w _
theorem Has.draw (h : Has w g t cs) : Has w.drew g t cs := h
theorem Has.draws (h : Has w g t cs) (n : Nat) : Has (w.drewN n) g t cs := h
theorem Has.beside (h : Has w g t cs) (o : Obj) : Has (w.alloc o) g t cs := by
  unfold Has; rw [Below.heap_alloc w o g h.lt]; exact h
theorem Has.stored (h : Has w g t cs) (i : Nat) (u : Value) : Has (w.setCell ⟨g, i, none⟩ u) g t (cs.setIfInBounds i u) := by
  unfold Has at h ⊢; simp [World.setCell, Array.getElem?_modify, h]
theorem Has.apart (h : Has w g t cs) {p : Addr} (hp : g ≠ p.block) (u : Value) : Has (w.setCell p u) g t cs := by
  unfold Has; rw [Below.heap_setCell w p u g hp]; exact h
theorem Has.under {B : Nat} (h : Has w g t cs) (hb : Below B w w') (hg : g < B) : Has w' g t cs := by
  unfold Has; rw [hb.block g hg]; exact h
theorem Has.grow {row : Option Nat} (h : Has w g t cs) (hb : w.grownBy w' row) (hg : some g ≠ row) : Has w' g t cs := by
  unfold Has; rw [hb.block g h.lt hg]; exact h
theorem Has.other {g' : Nat} {t' : TypeId} {cs' : Array Value} (h : Has w g t cs) (h' : Has w g' t' cs') (hne : t ≠ t') : g ≠ g' := by
  intro e
  subst e
  unfold Has at h h'
  rw [h] at h'
  simp only [Option.some.injEq, Obj.cells.injEq] at h'
  exact hne h'.2.1
end

/-! Only block g has turned, and what is new. -/
theorem only_refl (w : World) (row : Option Nat) : w.grownBy w row := ⟨rfl, rfl, rfl, Nat.le_refl _, fun _ _ _ => rfl⟩
theorem only_trans {a b c : World} {row : Option Nat} (h : a.grownBy b row) (k : b.grownBy c row) : a.grownBy c row :=
  ⟨k.os.trans h.os, k.tape.trans h.tape, k.output.trans h.output, Nat.le_trans h.size k.size, fun i hi hne => (k.block i (Nat.lt_of_lt_of_le hi h.size) hne).trans (h.block i hi hne)⟩
theorem only_draw {a b : World} {row : Option Nat} (h : a.grownBy b row) : a.grownBy b.drew row := ⟨h.os, h.tape, h.output, h.size, h.block⟩
theorem only_draws {a b : World} {row : Option Nat} (h : a.grownBy b row) (n : Nat) : a.grownBy (b.drewN n) row := ⟨h.os, h.tape, h.output, h.size, h.block⟩
theorem only_alloc {a b : World} {row : Option Nat} (h : a.grownBy b row) (o : Obj) : a.grownBy (b.alloc o) row :=
  only_trans h (World.grownBy_alloc b o row)
theorem only_store {a b : World} {g : Nat} (h : a.grownBy b (some g)) {p : Addr} (hp : p.block = g) (u : Value) : a.grownBy (b.setCell p u) (some g) :=
  only_trans h ⟨rfl, rfl, rfl, by simp [World.setCell], fun i _ hne => Below.heap_setCell b p u i (fun e => hne (by rw [e, hp]))⟩
theorem only_below {a b : World} {B : Nat} (h : Below B a b) (hB : a.heap.size ≤ B) (row : Option Nat) : a.grownBy b row :=
  ⟨h.os, h.tape, h.output, h.size, fun i hi _ => h.block i (Nat.lt_of_lt_of_le hi hB)⟩
theorem below_only {a b w : World} {B g : Nat} (h : Below B a b) (k : b.grownBy w (some g)) (hB : B ≤ b.heap.size) (hg : B ≤ g) : Below B a w :=
  h.grown k hB (fun x hx => by cases hx; exact hg)
theorem below_draws {B : Nat} {a w : World} (h : Below B a w) (n : Nat) : Below B a (w.drewN n) := ⟨h.os, h.tape, h.output, h.size, h.block⟩
theorem below_row {B g : Nat} {a w : World} (h : Below B a w) (hg : B ≤ g) (cs : Array Value) : Below B a (w.setRow g cs) :=
  ⟨h.os, h.tape, h.output, by simpa using h.size, fun k hk => by rw [setRow_other w g k cs (by omega)]; exact h.block k hk⟩

/-- A struct or an array that is made at once, its cells known as a whole. -/
theorem wpList_built {P : Program} {ops : Array Oper} {rest : List Oper} {o : Oper} {a : Act} {w : World} {Q : Exit → Act → World → Prop} (hg : o.guard = none) (t : TypeId) (parts : Array (Nat × Operand)) (ho : o.op = .build t parts)
    (cells : Array Value) (hc : P.built t (parts.map fun (i, x) => (i, a.eval x)).toList = some cells)
    (h : wpList P ops Q rest (a.put o.dst (.agg cells)) w) : wpList P ops Q (o :: rest) a w :=
  wpList_build hg t parts ho (by rw [hc]; rfl) (by rw [hc]; exact h)
theorem wpList_zeroed {P : Program} {ops : Array Oper} {rest : List Oper} {o : Oper} {a : Act} {w : World} {Q : Exit → Act → World → Prop} (hg : o.guard = none) (t : TypeId) (ho : o.op = .build t #[])
    (cells : Array Value) (hc : P.built t [] = some cells)
    (h : wpList P ops Q rest (a.put o.dst (.agg cells)) w) : wpList P ops Q (o :: rest) a w :=
  wpList_built hg t #[] ho cells (by simpa using hc) h

/-! A slice of the call's own, to which is appended. -/
theorem own_apart {w : World} {base : Nat} {e t : TypeId} {size n g : Nat} {v : Value} {xs : List Value} {cs : Array Value} (h : w.ownsRow base e size v n xs) (hg : Has w g t cs) (hne : e ≠ t) : v.ownBlock ≠ some g := by
  rcases h.2 with ⟨rfl, _⟩ | ⟨g', cap, cur, rfl, _, hh, _⟩
  · simp [Value.ownBlock]
  · intro he
    have e' : g' = g := by simpa [Value.ownBlock] using he
    subst e'
    exact Has.other (t := e) hh hg hne rfl
theorem own_keep {w w' : World} {base : Nat} {e : TypeId} {size n g : Nat} {v : Value} {xs : List Value} (h : w.ownsRow base e size v n xs) (hg : w.grownBy w' (some g)) (hne : v.ownBlock ≠ some g) : w'.ownsRow base e size v n xs :=
  h.kept hg (.inr hne)
theorem own_under {w w' : World} {base B : Nat} {e : TypeId} {size n : Nat} {v : Value} {xs : List Value} (h : w.ownsRow base e size v n xs) (hb : Below B w w') (hB : w.heap.size ≤ B) : w'.ownsRow base e size v n xs := by
  refine h.kept (row := none) (only_below hb hB none) ?_
  cases v.ownBlock with
  | none => exact .inl rfl
  | some k => exact .inr (by simp)
theorem own_shape {w : World} {base : Nat} {e : TypeId} {size n : Nat} {v : Value} {xs : List Value} (h : w.ownsRow base e size v n xs) : ∃ A c, v = .slice A n c := by
  rcases h.2 with ⟨rfl, rfl⟩ | ⟨g, cap, _, rfl, _⟩
  · exact ⟨none, 0, rfl⟩
  · exact ⟨_, _, rfl⟩
theorem below_own {a w w' : World} {B : Nat} {row : Option Nat} {base : Nat} {e : TypeId} {size n : Nat} {v : Value} {xs : List Value} (h : Below B a w) (hB : B ≤ w.heap.size) (ho : w.ownsRow base e size v n xs) (hbase : B ≤ base) (hr : row = v.ownBlock) (hg : w.grownBy w' row) : Below B a w' :=
  h.grown hg hB (fun k hk => Nat.le_trans hbase (ho.lt k (by rw [← hr, hk])).1)

theorem wpList_push {P : Program} {ops : Array Oper} {rest : List Oper} {o : Oper} {a : Act} {w : World} {Q : Exit → Act → World → Prop} (hgd : o.guard = none) (s x : Operand) (t : TypeId)
    (ho : o.op = .call { callee := .builtin .append, args := #[s, x], argTypes := #[t, t] })
    (base : Nat) (e : TypeId) (z : Value) (size bytes : Nat) (ht : P.underlying t = some (.slice e)) (hinfo : (P.info? e).map (fun i => (i.zero, i.size, i.bytes)) = some (some z, size, bytes))
    (hzs : z.cells.size = size) (hsz : 0 < size)
    (A : Option Addr) (n c : Nat) (xs : List Value) (hs : a.eval s = .slice A n c) (hown : Hid (w.ownsRow base e size (.slice A n c) n xs))
    (ad : Addr) (m cc : Nat) (news : List Value) (hx : a.eval x = .slice (some ad) m cc) (hl : Hid (news.length = m * size)) (hnews : Hid (∀ j u, news[j]? = some u → w.cell? (ad.add j) = some u)) (h1 : Hid (∀ u ∈ news, u.oneCell' = true))
    (hb : Hid (n + m ≤ maxLen ∧ (n + m) * bytes ≤ 140737488355328 ∧ base ≤ w.heap.size))
    (h : ∀ A' c' w', Hid (w'.ownsRow base e size (.slice A' (n + m) c') (n + m) (xs ++ news)) → Hid (w.grownBy w' (Value.ownBlock (.slice A n c))) →
      wpList P ops Q rest (a.put o.dst (.slice A' (n + m) c')) w') : wpList P ops Q (o :: rest) a w := by
  obtain ⟨i, hi, hz, hsize, hby⟩ := info_parts hinfo
  refine wpList_append_own_at w hgd s x t ho base e i z size bytes ht hi hz hsize hby hzs hsz (.slice A n c) n xs hs hown.out ad m cc news hx hl.out hnews.out h1.out hb.out.1 hb.out.2.1 hb.out.2.2 ?_
  intro v' w' h2 h3 _ _
  obtain ⟨A', c', rfl⟩ := own_shape h2
  exact h A' c' w' h2 h3

/-! A slice value that holds the cells vs (an element takes size cells), wherever it lies. -/
def Sl (w : World) (size : Nat) (A : Option Addr) (m c : Nat) (vs : List Value) : Prop :=
  vs.length = m * size ∧ (A = none → m = 0 ∧ c = 0) ∧ ∀ ad, A = some ad → ∀ j u, vs[j]? = some u → w.cell? (ad.add j) = some u
theorem sl_nil (w : World) (size : Nat) : Sl w size none 0 0 [] := ⟨by simp, fun _ => ⟨rfl, rfl⟩, fun _ h => by cases h⟩
theorem cell_block {w : World} {a : Addr} {v : Value} (h : w.cell? a = some v) : a.block < w.heap.size := by
  rcases Nat.lt_or_ge a.block w.heap.size with h1 | h1
  · exact h1
  · exfalso
    have hn : w.heap[a.block]? = none := Array.getElem?_eq_none h1
    simp [World.cell?, hn] at h
theorem Sl.under {w w' : World} {size : Nat} {A : Option Addr} {m c : Nat} {vs : List Value} (h : Sl w size A m c vs) (hb : Below w.heap.size w w') : Sl w' size A m c vs :=
  ⟨h.1, h.2.1, fun ad ha j u hu => by have h0 := h.2.2 ad ha j u hu; rw [hb.cell (cell_block h0)]; exact h0⟩
theorem Sl.beside {w : World} {size : Nat} {A : Option Addr} {m c : Nat} {vs : List Value} (h : Sl w size A m c vs) (o : Obj) : Sl (w.alloc o) size A m c vs :=
  h.under ((Below.refl _ _).alloc (Nat.le_refl _) o)
theorem Sl.draws {w : World} {size : Nat} {A : Option Addr} {m c : Nat} {vs : List Value} (h : Sl w size A m c vs) (n : Nat) : Sl (w.drewN n) size A m c vs := h
theorem Sl.at_ {w : World} {size : Nat} {A : Option Addr} {m c : Nat} {vs : List Value} (h : Sl w size A m c vs) {j : Nat} {u : Value} (hj : vs[j]? = some u) : ∃ b off, A = some ⟨b, off, none⟩ ∧ w.cell? ⟨b, off + j, none⟩ = some u := by
  cases A with
  | none =>
    have := h.1
    rw [(h.2.1 rfl).1] at this
    have e : vs = [] := List.eq_nil_of_length_eq_zero (by simpa using this)
    subst e
    simp at hj
  | some a =>
    obtain ⟨b, off, spot⟩ := a
    have h0 := h.2.2 _ rfl j u hj
    have hlt : 0 < vs.length := by have := (List.getElem?_eq_some_iff.1 hj).1; omega
    have h00 := h.2.2 _ rfl 0 _ (List.getElem?_eq_getElem hlt)
    have hspot : spot = none := by simpa [Addr.add] using World.cell?_spot h00
    subst hspot
    refine ⟨b, off, rfl, ?_⟩
    rw [← WideShapes.add_plain]
    exact h0
theorem Sl.of_own {w : World} {base : Nat} {e : TypeId} {size : Nat} {A : Option Addr} {m c : Nat} {vs : List Value} (h : w.ownsRow base e size (.slice A m c) m vs) : Sl w size A m c vs := by
  refine ⟨h.1, fun ha => ?_, fun ad ha j u hu => ?_⟩
  · subst ha
    rcases h.2 with ⟨e1, e2⟩ | ⟨g, cap, cur, e1, _⟩
    · injection e1 with _ _ e3
      exact ⟨e2, e3⟩
    · injection e1 with e1
      cases e1
  · subst ha
    rcases h.2 with ⟨e1, _⟩ | ⟨g, cap, cur, e1, _⟩
    · injection e1 with e1
      cases e1
    · injection e1 with e1
      injection e1 with e1
      subst e1
      exact h.cells rfl j u hu

theorem wpList_pour {P : Program} {ops : Array Oper} {rest : List Oper} {o : Oper} {a : Act} {w : World} {Q : Exit → Act → World → Prop} (hgd : o.guard = none) (s x : Operand) (t : TypeId)
    (ho : o.op = .call { callee := .builtin .append, args := #[s, x], argTypes := #[t, t] })
    (base : Nat) (e : TypeId) (z : Value) (size bytes : Nat) (ht : P.underlying t = some (.slice e)) (hinfo : (P.info? e).map (fun i => (i.zero, i.size, i.bytes)) = some (some z, size, bytes))
    (hzs : z.cells.size = size) (hsz : 0 < size)
    (A : Option Addr) (n c : Nat) (xs : List Value) (hs : a.eval s = .slice A n c) (hown : Hid (w.ownsRow base e size (.slice A n c) n xs))
    (B : Option Addr) (m cc : Nat) (news : List Value) (hx : a.eval x = .slice B m cc) (hl : Hid (Sl w size B m cc news)) (h1 : Hid (∀ u ∈ news, u.oneCell' = true))
    (hb : Hid (n + m ≤ maxLen ∧ (n + m) * bytes ≤ 140737488355328 ∧ base ≤ w.heap.size))
    (h : ∀ A' c' w', Hid (w'.ownsRow base e size (.slice A' (n + m) c') (n + m) (xs ++ news)) → Hid (w.grownBy w' (Value.ownBlock (.slice A n c))) →
      wpList P ops Q rest (a.put o.dst (.slice A' (n + m) c')) w') : wpList P ops Q (o :: rest) a w := by
  cases B with
  | none =>
    obtain ⟨rfl, rfl⟩ := hl.out.2.1 rfl
    have e0 : news = [] := List.eq_nil_of_length_eq_zero (by simpa using hl.out.1)
    subst e0
    obtain ⟨i, hi, _⟩ := info_parts hinfo
    exact wpList_append_own_none hgd s x t ho base e i size ht hi (.slice A n c) n xs hs hown.out hx (h A c w (show Hid _ by simpa using hown) (only_refl _ _))
  | some ad =>
    exact wpList_push hgd s x t ho base e z size bytes ht hinfo hzs hsz A n c xs hs hown ad m cc news hx hl.out.1 (hl.out.2.2 ad rfl) h1 hb h

/-- wpList_push, at a region that draws its order. -/
theorem step_push {P : Program} {ops : Array Oper} {o : Oper} {a : Act} {w : World} {K : Act → World → Prop} {Q : Exit → Act → World → Prop} {E : Prop} (hgd : o.guard = none) (s x : Operand) (t : TypeId)
    (ho : o.op = .call { callee := .builtin .append, args := #[s, x], argTypes := #[t, t] })
    (base : Nat) (e : TypeId) (z : Value) (size bytes : Nat) (ht : P.underlying t = some (.slice e)) (hinfo : (P.info? e).map (fun i => (i.zero, i.size, i.bytes)) = some (some z, size, bytes))
    (hzs : z.cells.size = size) (hsz : 0 < size)
    (A : Option Addr) (n c : Nat) (xs : List Value) (hs : a.eval s = .slice A n c) (hown : Hid (w.ownsRow base e size (.slice A n c) n xs))
    (ad : Addr) (m cc : Nat) (news : List Value) (hx : a.eval x = .slice (some ad) m cc) (hl : Hid (news.length = m * size)) (hnews : Hid (∀ j u, news[j]? = some u → w.cell? (ad.add j) = some u)) (h1 : Hid (∀ u ∈ news, u.oneCell' = true))
    (hb : Hid (n + m ≤ maxLen ∧ (n + m) * bytes ≤ 140737488355328 ∧ base ≤ w.heap.size))
    (h : ∀ A' c' w', Hid (w'.ownsRow base e size (.slice A' (n + m) c') (n + m) (xs ++ news)) → Hid (w.grownBy w' (Value.ownBlock (.slice A n c))) →
      K (a.put o.dst (.slice A' (n + m) c')) w') : if Region.wanted o (yielded ops a.tmps) = true then Oper.wp P o a w K Q else E := by
  have hw : Region.wanted o (yielded ops a.tmps) = true := by simp [Region.wanted, hgd]
  rw [if_pos hw]
  obtain ⟨i, hi, hz, hsize, hby⟩ := info_parts hinfo
  obtain ⟨v', w', hr, h2, h3, _, _⟩ := run_append_own_at (P := P) w base t o.type e i z size bytes ht hi hz hsize hby hzs hsz (.slice A n c) n xs hown.out ad m cc news hl.out hnews.out h1.out hb.out.1 hb.out.2.1 hb.out.2.2
  obtain ⟨A', c', rfl⟩ := own_shape h2
  unfold Oper.wp execOp
  simp only [ho, resolve, invoke, builtin, Sem.run_bind, Sem.run_pure, Result.andThen_ok, List.map_toArray, List.map_cons, List.map_nil, hs, hx, hr]
  exact h A' c' w' h2 h3

end Go.Proofs.YtamnhnleipnhdaaDoor

/-
  What an argument that came in reads as: words of our own for slices.
-/
namespace Go.Proofs.YtamnhnleipnhdaaDoor

open Go.ChangeShapes Go.WideShapes Go.ChangeAt Go.RowKit Go.Deep

/-- A slice that came in, of n integers of kind k: its elements are zs. -/
def InInts (k : IntKind) (w : World) (A : Option Addr) (n : Nat) (zs : List Int) : Prop :=
  zs.length = n ∧ n ≤ maxLen ∧ (0 < n → ∃ ad : Addr, A = some ad ∧ ∀ i, i < n → w.cell? (ad.add i) = some (.int k (zs.getD i 0))) ∧ ∀ z ∈ zs, (Lit.int k z).wf = true
theorem inInts_nil (k : IntKind) (w : World) (A : Option Addr) : InInts k w A 0 [] := ⟨rfl, by unfold maxLen; omega, fun h => absurd h (by omega), fun z hz => by simp at hz⟩
theorem inInts_of {k : IntKind} {w : World} {x : Addr} {n c : Nat} {zs : List Int} (hl : n ≤ c) (hm : c ≤ maxLen) (hz : zs.length = c)
    (hcell : ∀ i, i < zs.length → w.cell? (x.add i) = some (.int k (zs.getD i 0))) (hwz : ∀ z ∈ zs, (Lit.int k z).wf = true) : InInts k w (some x) n (zs.take n) := by
  refine ⟨by simp; omega, by omega, fun _ => ⟨x, rfl, fun i hi => ?_⟩, fun z h => hwz z (List.mem_of_mem_take h)⟩
  rw [hcell i (by omega)]
  simp [List.getD_eq_getElem?_getD, hi]

theorem ints_low {k : IntKind} {w wr : World} {A : Option Addr} {n : Nat} {zs : List Int} (h : InInts k w A n zs) (hb : Below w.heap.size w wr) {j : Nat} (hj : j < n) :
    ∃ b off, A = some ⟨b, off, none⟩ ∧ wr.cell? ⟨b, off + j, none⟩ = some (.int k (zs.getD j 0)) := by
  obtain ⟨⟨b, off, spot⟩, rfl, hc⟩ := h.2.2.1 (by omega)
  have hspot : spot = none := by simpa [Addr.add] using World.cell?_spot (hc 0 (by omega))
  subst hspot
  refine ⟨b, off, rfl, ?_⟩
  have h0 := hc j hj
  rw [Go.WideShapes.add_plain] at h0
  rw [hb.cell (cell_block h0)]
  exact h0

end Go.Proofs.YtamnhnleipnhdaaDoor

/-
  Bytes in memory: a slice that holds some bytes; the text that they are; an argument of bytes.
-/
namespace Go.Proofs.YtamnhnleipnhdaaDoor

open Go.RowKit Go.ChangeAt

def u8s (l : List Nat) : List Value := l.map fun (n : Nat) => Value.int .u8 (n : Int)
theorem u8s_length (l : List Nat) : (u8s l).length = l.length := by simp [u8s]

theorem u8s_one (l : List Nat) : ∀ v ∈ u8s l, v.oneCell' = true := by
  intro v hv
  simp only [u8s, List.mem_map] at hv
  obtain ⟨n, _, rfl⟩ := hv
  rfl
theorem made_row (w : World) (z : Value) (n : Nat) (t : TypeId) : Has (w.alloc (.cells (madeCells #[z] n) t)) w.heap.size t (List.replicate n z).toArray := by
  have e : madeCells #[z] n = (List.replicate n z).toArray := by
    apply Array.toList_inj.1
    rw [toList_madeCells_one]
  rw [e]
  exact Has.made w t _
theorem splice_all {α : Type} (L cs : List α) (h : cs.length = L.length) : splice L 0 cs = cs := by
  simp [splice, h]

theorem info_u8 : (Tryd.prog.info? 5).map (fun i => (i.zero, i.size, i.bytes)) = some (some (.int .u8 0), 1, 1) := by kernel_rfl
theorem size_u8 : (Tryd.prog.info? 5).map (·.size) = some 1 := by kernel_rfl

/-- The slice's array holds the bytes xs, wherever it lies. -/
def At8 (w : World) (A : Option Addr) (xs : List Nat) : Prop := 0 < xs.length → ∃ ad, A = some ad ∧ ∀ j v, (u8s xs)[j]? = some v → w.cell? (ad.add j) = some v

theorem At8.of_has {w : World} {g : Nat} {xs : List Nat} (h : Has w g 5 (u8s xs).toArray) : At8 w (some ⟨g, 0, none⟩) xs := by
  intro _
  refine ⟨⟨g, 0, none⟩, rfl, fun j v hv => ?_⟩
  have e : (⟨g, 0, none⟩ : Addr).add j = ⟨g, j, none⟩ := by unfold Addr.add; split <;> simp_all
  rw [e, h.cell]
  simpa using hv

theorem at8_alloc {w : World} {A : Option Addr} {xs : List Nat} (h : At8 w A xs) (o : Obj) : At8 (w.alloc o) A xs := by
  intro hpos
  obtain ⟨ad, e, hc⟩ := h hpos
  refine ⟨ad, e, fun j v hv => ?_⟩
  have := hc j v hv
  have hlt : (ad.add j).block < w.heap.size := by
    rcases Nat.lt_or_ge (ad.add j).block w.heap.size with h1 | h1
    · exact h1
    · exfalso
      have hn : w.heap[(ad.add j).block]? = none := Array.getElem?_eq_none h1
      simp [World.cell?, hn] at this
  rw [World.cell?_alloc_lt w o _ hlt]
  exact this

/-- The text that some bytes are. -/
def str8 (xs : List Nat) : ByteArray := ⟨(xs.map fun n => UInt8.ofNat n).toArray⟩
theorem conv8 (A : Option Addr) (c : Nat) (xs : List Nat) (w : World) (h : At8 w A xs) :
    (convert 28 9 (.slice A xs.length c)).run Tryd.prog w = .ok (.string (str8 xs)) w := by
  cases xs with
  | nil =>
    show (convert 28 9 (.slice A 0 c)).run Tryd.prog w = _
    rw [run_convert_bytes_string w 28 9 5 A 0 c Tryd.underlying28 Tryd.underlying5 Tryd.underlying9]
    cases A with
    | none => simp [Conv.bytesToString, str8]; rfl
    | some a => rw [run_bytesToString w a 0 c [] (by simpa using run_loadCells_list (P := Tryd.prog) w a [] (fun j v hj => by simp at hj))]; rfl
  | cons x r =>
    obtain ⟨ad, rfl, hc⟩ := h (by simp)
    have hl := run_loadCells_list (P := Tryd.prog) w ad ((((x :: r).map fun (n : Nat) => (n : Int))).map (Value.int .u8)) (fun j v hj => hc j v (by simpa [u8s, Function.comp_def] using hj))
    rw [run_convert_bytes_string w 28 9 5 _ _ c Tryd.underlying28 Tryd.underlying5 Tryd.underlying9]
    rw [run_bytesToString w ad _ c ((x :: r).map fun (n : Nat) => (n : Int)) (by simpa using hl), foldl_push_bytes]
    simp [str8]

theorem str8_size (xs : List Nat) : (str8 xs).size = xs.length := by simp [str8, ByteArray.size]
theorem back8 (xs : List Nat) (W : World) :
    (convert 9 28 (.string (str8 xs))).run Tryd.prog W = .ok (.slice (some ⟨W.heap.size, 0, none⟩) xs.length (grownCap W xs.length 0 5)) (Lib.bytesWorld W 5 (str8 xs)) := by
  rw [Lib.run_convert_string_bytes W 9 28 5 (str8 xs) Tryd.underlying9 Tryd.underlying28 Tryd.underlying5, str8_size]
theorem below_back8 (xs : List Nat) (W : World) : Below W.heap.size W (Lib.bytesWorld W 5 (str8 xs)) :=
  ⟨rfl, rfl, rfl, by rw [Lib.bytesWorld_size]; omega, fun k hk => Lib.bytesWorld_at_old W _ _ k hk⟩
theorem at8_back8 (xs : List Nat) (hb : ∀ x ∈ xs, x < 256) (W : World) : At8 (Lib.bytesWorld W 5 (str8 xs)) (some ⟨W.heap.size, 0, none⟩) xs := by
  intro _
  refine ⟨_, rfl, fun j v hv => ?_⟩
  have hj : j < xs.length := by
    have := (List.getElem?_eq_some_iff.1 hv).1
    rwa [u8s_length] at this
  have e : (⟨W.heap.size, 0, none⟩ : Addr).add j = ⟨W.heap.size, j, none⟩ := by unfold Addr.add; split <;> simp_all
  rw [e, Lib.bytesWorld_cell W _ _ j (by rw [str8_size]; exact hj), ← hv]
  have hx := hb xs[j] (List.getElem_mem _)
  simp [str8, u8s, hj]
  omega

/-- An argument of n bytes. -/
def InBytes (w : World) (A : Option Addr) (n : Nat) (xs : List Nat) : Prop := xs.length = n ∧ n ≤ maxLen ∧ At8 w A xs ∧ ∀ x ∈ xs, x < 256
theorem InInts.bytes {w : World} {A : Option Addr} {n : Nat} {zs : List Int} (h : InInts .u8 w A n zs) : InBytes w A n (zs.map Int.toNat) := by
  obtain ⟨hl, hm, hc, hwz⟩ := h
  have hb : ∀ z ∈ zs, 0 ≤ z ∧ z ≤ 255 := fun z hz => by have := hwz z hz; simpa [Lit.wf, IntKind.min, IntKind.max, IntKind.signed, IntKind.bits] using this
  refine ⟨by simpa using hl, hm, fun hpos => ?_, fun x hx => ?_⟩
  · obtain ⟨ad, e, hcell⟩ := hc (by simp at hpos; omega)
    refine ⟨ad, e, fun j v hv => ?_⟩
    have hj : j < n := by
      have := (List.getElem?_eq_some_iff.1 hv).1
      simp [u8s] at this
      omega
    have hj' : j < zs.length := by omega
    rw [hcell j hj, ← hv]
    have := hb zs[j] (List.getElem_mem _)
    simp [u8s, List.getD_eq_getElem?_getD, hj']
    omega
  · simp only [List.mem_map] at hx
    obtain ⟨z, hz, rfl⟩ := hx
    have := hb z hz
    omega

end Go.Proofs.YtamnhnleipnhdaaDoor

/-
  Plain facts on lists of bits and the numbers that they are: no program stands in this text.
-/
namespace Go.Proofs.YtamnhnleipnhdaaDoor.BitsM

/-- The number of some bits, the first the highest. -/
def num (l : List Bool) : Nat := l.foldl (fun a b => 2 * a + b.toNat) 0

theorem num_nil : num [] = 0 := rfl
theorem num_snoc (l : List Bool) (b : Bool) : num (l ++ [b]) = 2 * num l + b.toNat := by simp [num, List.foldl_append]

theorem list_snoc_ind {p : List Bool → Prop} (h0 : p []) (h1 : ∀ l b, p l → p (l ++ [b])) : ∀ l, p l := by
  intro l
  have : ∀ n, ∀ l : List Bool, l.length = n → p l := by
    intro n
    induction n with
    | zero => intro l hl; have : l = [] := List.eq_nil_of_length_eq_zero hl; subst this; exact h0
    | succ n ih =>
      intro l hl
      have hne : l ≠ [] := by intro e; subst e; simp at hl
      rw [← List.dropLast_concat_getLast hne]
      exact h1 _ _ (ih _ (by simp; omega))
  exact this _ l rfl

theorem num_lt (l : List Bool) : num l < 2 ^ l.length := by
  refine list_snoc_ind (p := fun l => num l < 2 ^ l.length) (by simp [num]) (fun l b ih => ?_) l
  rw [num_snoc, List.length_append, List.length_singleton, Nat.pow_succ]
  cases b <;> simp <;> omega

theorem num_testBit (l : List Bool) : ∀ j, (num l).testBit j = (decide (j < l.length) && l.getD (l.length - 1 - j) false) := by
  refine list_snoc_ind (p := fun l => ∀ j, (num l).testBit j = (decide (j < l.length) && l.getD (l.length - 1 - j) false)) (by intro j; simp [num]) (fun l b ih j => ?_) l
  rw [num_snoc]
  cases j with
  | zero =>
    rw [Nat.testBit_zero]
    cases b <;> simp [Nat.add_mod]
  | succ j =>
    rw [Nat.testBit_succ]
    have e : (2 * num l + b.toNat) / 2 = num l := by cases b <;> simp <;> omega
    rw [e, ih j]
    simp only [List.length_append, List.length_singleton]
    by_cases hj : j < l.length
    · have h1 : l.length + 1 - 1 - (j + 1) = l.length - 1 - j := by omega
      rw [h1]
      have h2 : l.length - 1 - j < l.length := by omega
      simp [hj, List.getD_eq_getElem?_getD, List.getElem?_append_left h2]
    · simp [hj]

theorem num_eq_of {l : List Bool} {n : Nat} (hn : n < 2 ^ l.length) (h : ∀ j, j < l.length → n.testBit j = l.getD (l.length - 1 - j) false) : num l = n := by
  apply Nat.eq_of_testBit_eq
  intro j
  rw [num_testBit]
  by_cases hj : j < l.length
  · simp [hj, h j hj]
  · have : n.testBit j = false := Nat.testBit_lt_two_pow (Nat.lt_of_lt_of_le hn (Nat.pow_le_pow_right (by omega) (by omega)))
    simp [hj, this]

/-- The first j of the w low bits of n, the highest first. -/
def wbits (n w j : Nat) : List Bool := (List.range j).map fun k => n.testBit (w - 1 - k)
theorem wbits_zero (n w : Nat) : wbits n w 0 = [] := rfl
theorem wbits_length (n w j : Nat) : (wbits n w j).length = j := by simp [wbits]
theorem wbits_succ (n w j : Nat) : wbits n w (j + 1) = wbits n w j ++ [n.testBit (w - 1 - j)] := by simp [wbits, List.range_succ]
theorem wbits_getD (n w j i : Nat) (h : i < j) : (wbits n w j).getD i false = n.testBit (w - 1 - i) := by
  simp [wbits, List.getD_eq_getElem?_getD, h]

theorem num_wbits (n w : Nat) (h : n < 2 ^ w) : num (wbits n w w) = n := by
  apply num_eq_of
  · simpa [wbits_length] using h
  · intro j hj
    rw [wbits_length] at hj ⊢
    rw [wbits_getD _ _ _ _ (by omega)]
    congr 1
    omega

theorem num_append (l m : List Bool) : num (l ++ m) = num l * 2 ^ m.length + num m := by
  refine list_snoc_ind (p := fun m => num (l ++ m) = num l * 2 ^ m.length + num m) (by simp [num]) (fun m b ih => ?_) m
  rw [← List.append_assoc, num_snoc, ih, num_snoc, List.length_append, List.length_singleton, Nat.pow_succ]
  rw [Nat.mul_add, ← Nat.mul_assoc, Nat.mul_comm 2 (num l), Nat.mul_assoc (num l) 2, Nat.mul_comm 2 (2 ^ m.length), Nat.add_assoc]

/-- Byte i of a writer that has these bits: noughts behind the end. -/
def byteAt (bs : List Bool) (i : Nat) : Nat := num ((List.range 8).map fun k => bs.getD (8 * i + k) false)
theorem byteAt_lt (bs : List Bool) (i : Nat) : byteAt bs i < 256 := by
  have := num_lt ((List.range 8).map fun k => bs.getD (8 * i + k) false)
  simpa [byteAt] using this
theorem byteAt_testBit (bs : List Bool) (i j : Nat) : (byteAt bs i).testBit j = (decide (j < 8) && bs.getD (8 * i + (7 - j)) false) := by
  unfold byteAt
  rw [num_testBit]
  by_cases hj : j < 8
  · have h2 : 8 - 1 - j < 8 := by omega
    simp only [List.length_map, List.length_range, hj, decide_true, Bool.true_and]
    simp [List.getD_eq_getElem?_getD, h2]
  · simp [hj]
theorem byteAt_none (bs : List Bool) (i : Nat) (h : bs.length ≤ 8 * i) : byteAt bs i = 0 := by
  apply Nat.eq_of_testBit_eq
  intro j
  rw [byteAt_testBit]
  simp [List.getD_eq_getElem?_getD]
  intro _
  rw [List.getElem?_eq_none (by omega)]
  rfl
theorem byteAt_nil (i : Nat) : byteAt [] i = 0 := byteAt_none [] i (by simp)

theorem byteAt_snoc_other (bs : List Bool) (b : Bool) (i : Nat) (h : i ≠ bs.length / 8) : byteAt (bs ++ [b]) i = byteAt bs i := by
  apply Nat.eq_of_testBit_eq
  intro j
  rw [byteAt_testBit, byteAt_testBit]
  by_cases hj : j < 8
  · simp only [hj, decide_true, Bool.true_and, List.getD_eq_getElem?_getD]
    by_cases hl : 8 * i + (7 - j) < bs.length
    · rw [List.getElem?_append_left hl]
    · rw [List.getElem?_eq_none (by simp; omega), List.getElem?_eq_none (by omega)]
  · simp [hj]
theorem byteAt_snoc_same (bs : List Bool) (b : Bool) : byteAt (bs ++ [b]) (bs.length / 8) = byteAt bs (bs.length / 8) ||| (b.toNat <<< (7 - bs.length % 8)) := by
  apply Nat.eq_of_testBit_eq
  intro j
  rw [Nat.testBit_or, byteAt_testBit, byteAt_testBit, Nat.testBit_shiftLeft]
  by_cases hj : j < 8
  · simp only [hj, decide_true, Bool.true_and, List.getD_eq_getElem?_getD]
    by_cases he : j = 7 - bs.length % 8
    · subst he
      have e : 8 * (bs.length / 8) + (7 - (7 - bs.length % 8)) = bs.length := by omega
      rw [e]
      simp
      cases b <;> simp
    · by_cases hl : 8 * (bs.length / 8) + (7 - j) < bs.length
      · rw [List.getElem?_append_left hl]
        have hlt : ¬ (7 - bs.length % 8 ≤ j ∧ j - (7 - bs.length % 8) = 0) := by omega
        cases b
        · simp
        · have : (1 : Nat).testBit (j - (7 - bs.length % 8)) = decide (j - (7 - bs.length % 8) = 0) := by
            cases j - (7 - bs.length % 8) with
            | zero => simp
            | succ n => simp [Nat.testBit_succ]
          simp only [Bool.toNat_true, ge_iff_le]
          rw [this]
          by_cases h1 : 7 - bs.length % 8 ≤ j
          · have h2 : j - (7 - bs.length % 8) ≠ 0 := by omega
            simp [h2]
          · simp [h1]
      · rw [List.getElem?_eq_none (by simp; omega), List.getElem?_eq_none (by omega)]
        have h1 : ¬ 7 - bs.length % 8 ≤ j := by omega
        simp [h1]
  · have hb : b.toNat <<< (7 - bs.length % 8) < 256 := by
      have : b.toNat ≤ 1 := Bool.toNat_le b
      have h2 : (2 : Nat) ^ (7 - bs.length % 8) ≤ 2 ^ 7 := Nat.pow_le_pow_right (by omega) (by omega)
      rw [Nat.shiftLeft_eq]
      have := Nat.mul_le_mul this h2
      omega
    have : (b.toNat <<< (7 - bs.length % 8)).testBit j = false := Nat.testBit_lt_two_pow (Nat.lt_of_lt_of_le hb (by have := Nat.pow_le_pow_right (n := 2) (by omega) (show 8 ≤ j by omega); omega))
    rw [Nat.testBit_shiftLeft] at this
    rw [this]
    simp [hj]

end Go.Proofs.YtamnhnleipnhdaaDoor.BitsM

/-
  Contracts of the small functions of package bits: widthFits and bitShift, for every argument that they are called with.
-/
namespace Go.Proofs.YtamnhnleipnhdaaDoor

open Go.RowKit

set_option maxHeartbeats 400000 in
theorem widthFits_yes (n : Int) (h1 : 1 ≤ n) (h2 : n ≤ 32) (w : World) :
    Calls Tryd.prog 73 #[.int .i64 n] w fun e w' => e = .returned (.bool true) ∧ w = w' := by
  go_enter Tryd.func73, Tryd.ntmps73
  go_wp2
  go_ret
  exact ⟨rfl, rfl⟩

set_option maxHeartbeats 400000 in
theorem widthFits_no (n : Int) (h : n < 1 ∨ 32 < n) (w : World) :
    Calls Tryd.prog 73 #[.int .i64 n] w fun e w' => e = .returned (.bool false) ∧ w = w' := by
  rcases h with h | h
  · have h' : ¬ 1 ≤ n := by omega
    go_enter Tryd.func73, Tryd.ntmps73
    go_wp2
    go_ret
    exact ⟨rfl, rfl⟩
  · have h' : 1 ≤ n := by omega
    have h'' : ¬ n ≤ 32 := by omega
    go_enter Tryd.func73, Tryd.ntmps73
    go_wp2
    go_ret
    exact ⟨rfl, rfl⟩

set_option maxHeartbeats 400000 in
theorem bitShift_any (n : Int) (h : 0 ≤ n) (h2 : n ≤ 9223372036854775807) (w : World) :
    Calls Tryd.prog 75 #[.int .i64 n] w fun e w' => e = .returned (.int .i64 (7 - n % 8)) ∧ w = w' := by
  have h8 : 0 ≤ n % 8 := by omega
  have h9 : n % 8 ≤ 7 := by omega
  go_enter Tryd.func75, Tryd.ntmps75
  go_wp2
  go_ret
  exact ⟨rfl, rfl⟩

end Go.Proofs.YtamnhnleipnhdaaDoor

/-
  Go's operators on bits, of numbers that are not below nought.
-/
namespace Go.Proofs.YtamnhnleipnhdaaDoor

open Go.RowKit

/-- A number below 2^63 is itself, seen as 64 bits and seen as an int. -/
theorem low63 {a : Nat} (ha : a < 2 ^ 63) : (BitVec.ofInt 64 (a : Int)).toNat = a ∧ IntKind.i64.wrap (a : Int) = (a : Int) := by
  refine ⟨?_, IntWalk.i64_in _ (by omega)⟩
  simp only [BitVec.ofInt_natCast, BitVec.toNat_ofNat]
  omega
theorem and_i64 (a b : Nat) (ha : a < 9223372036854775808) (hb : b < 9223372036854775808) : bits .and .i64 (a : Int) (b : Int) = ((a &&& b : Nat) : Int) := by
  have e : (BitVec.ofInt 64 (a : Int) &&& BitVec.ofInt 64 (b : Int)).toNat = a &&& b := by
    simp only [BitVec.toNat_and, (low63 (a := a) (by omega)).1, (low63 (a := b) (by omega)).1]
  have h := (low63 (a := a &&& b) (Nat.and_lt_two_pow _ (by omega))).2
  rw [← h, ← e]
  rfl
theorem or_i64 (a b : Nat) (ha : a < 9223372036854775808) (hb : b < 9223372036854775808) : bits .or .i64 (a : Int) (b : Int) = ((a ||| b : Nat) : Int) := by
  have e : (BitVec.ofInt 64 (a : Int) ||| BitVec.ofInt 64 (b : Int)).toNat = a ||| b := by
    simp only [BitVec.toNat_or, (low63 (a := a) (by omega)).1, (low63 (a := b) (by omega)).1]
  have h := (low63 (a := a ||| b) (Nat.or_lt_two_pow (by omega) (by omega))).2
  rw [← h, ← e]
  rfl

theorem testBit_nat (n s : Nat) : (n.testBit s).toNat = n / 2 ^ s % 2 := by
  rw [Nat.testBit_eq_decide_div_mod_eq]
  have : n / 2 ^ s % 2 < 2 := Nat.mod_lt _ (by omega)
  by_cases h : n / 2 ^ s % 2 = 1
  · simp [h]
  · have h0 : n / 2 ^ s % 2 = 0 := by omega
    simp [h0]

theorem and_one (n s : Nat) (hn : n < 9223372036854775808) : bits .and .i64 ((n : Int) / 2 ^ s) 1 = (((n.testBit s).toNat : Nat) : Int) := by
  have e : ((n : Int) / 2 ^ s) = ((n / 2 ^ s : Nat) : Int) := by simp
  have hle : n / 2 ^ s ≤ n := Nat.div_le_self _ _
  rw [e, testBit_nat, ← nat_mask1]
  exact and_i64 _ 1 (by omega) (by omega)

/-- The byte that a put stores for one bit. -/
theorem put_byte (old n s t : Nat) (ho : old < 256) (hn : n < 9223372036854775808) (ht : t ≤ 7) :
    bits .or .u8 (old : Int) (bits .and .i64 ((n : Int) / 2 ^ s) 1 % 256 * 2 ^ t % 256) = ((old ||| ((n.testBit s).toNat <<< t) : Nat) : Int) := by
  rw [and_one n s hn, Nat.shiftLeft_eq]
  have hb : (n.testBit s).toNat ≤ 1 := Bool.toNat_le _
  generalize (n.testBit s).toNat = b at *
  have h2 : (2 : Nat) ^ t ≤ 2 ^ 7 := Nat.pow_le_pow_right (by omega) ht
  have hm : b * 2 ^ t ≤ 1 * 2 ^ 7 := Nat.mul_le_mul hb h2
  have e : ((b : Int) % 256 * 2 ^ t % 256) = ((b * 2 ^ t : Nat) : Int) := by
    have e1 : (b : Int) % 256 = b := by omega
    have e2 : ((b : Int) * 2 ^ t) = ((b * 2 ^ t : Nat) : Int) := by simp
    rw [e1, e2]
    omega
  rw [e]
  exact u8_or_nat _ _ ho (by omega)

/-- One round of a get: the number so far twice, and one bit more. -/
theorem get_bit (n b s : Nat) (hn : n < 2147483648) (hb : b < 256) :
    bits .or .i64 ((n : Int) * 2) (wrap64 (bits .and .u8 ((b : Int) / 2 ^ s) 1)) = ((2 * n + (b.testBit s).toNat : Nat) : Int) := by
  have e : ((b : Int) / 2 ^ s) = ((b / 2 ^ s : Nat) : Int) := by simp
  have hle : b / 2 ^ s ≤ b := Nat.div_le_self _ _
  have h1 : bits .and .u8 ((b : Int) / 2 ^ s) 1 = (((b.testBit s).toNat : Nat) : Int) := by
    rw [e, testBit_nat, ← nat_mask1]
    exact u8_and_nat _ 1 (by omega) (by omega)
  have h2 : (b.testBit s).toNat ≤ 1 := Bool.toNat_le _
  rw [h1]
  generalize (b.testBit s).toNat = t at *
  have e3 : wrap64 (t : Int) = t := IntWalk.wrap64_in _ (by omega)
  have e4 : (n : Int) * 2 = ((2 * n : Nat) : Int) := by omega
  rw [e3, e4, or_i64 _ _ (by omega) (by omega)]
  rw [nat_join 1 (2 * n) t (by omega) (by omega)]

end Go.Proofs.YtamnhnleipnhdaaDoor

/-
  (*bits.Writer).Put: what one call does to a writer that holds some bits.
-/
namespace Go.Proofs.YtamnhnleipnhdaaDoor

open Go.RowKit

open BitsM

/-- The cells of a writer that holds the bits bs. -/
def wcells (bs : List Bool) : Array Value := ((List.range 1023).map fun i => Value.int .u8 (byteAt bs i)).toArray.push (.int .i64 bs.length)
theorem wcells_size (bs : List Bool) : (wcells bs).size = 1024 := by simp [wcells]
theorem wcells_byte (bs : List Bool) (i : Nat) (h : i < 1023) : (wcells bs)[i]? = some (.int .u8 (byteAt bs i)) := by
  have : i ≠ 1023 := by omega
  simp only [wcells, Array.getElem?_push, List.size_toArray, List.length_map, List.length_range, if_neg this, List.getElem?_toArray, List.getElem?_map, List.getElem?_range h, Option.map_some]
theorem wcells_held (bs : List Bool) : (wcells bs)[1023]? = some (.int .i64 bs.length) := by
  simp [wcells]
theorem wcells_snoc (bs : List Bool) (b : Bool) (h : bs.length < 8184) :
    ((wcells bs).setIfInBounds (bs.length / 8) (.int .u8 (byteAt (bs ++ [b]) (bs.length / 8)))).setIfInBounds 1023 (.int .i64 ((bs ++ [b]).length : Nat)) = wcells (bs ++ [b]) := by
  apply Array.ext_getElem?
  intro i
  rw [Array.getElem?_setIfInBounds, Array.getElem?_setIfInBounds]
  simp only [Array.size_setIfInBounds, wcells_size]
  by_cases h1 : 1023 = i
  · subst h1
    rw [wcells_held (bs ++ [b])]; simp
  · rw [if_neg h1]
    by_cases h2 : bs.length / 8 = i
    · subst h2
      rw [wcells_byte (bs ++ [b]) _ (by omega), if_pos rfl, if_pos (by omega)]
    · rw [if_neg h2]
      by_cases h3 : i < 1023
      · rw [wcells_byte _ _ h3, wcells_byte _ _ h3, byteAt_snoc_other _ _ _ (fun e => h2 e.symm)]
      · rw [Array.getElem?_eq_none (by rw [wcells_size]; omega), Array.getElem?_eq_none (by rw [wcells_size]; omega)]

/-- Block g is a writer that holds the bits bs. -/
def IsW (w : World) (g : Nat) (bs : List Bool) : Prop := bs.length ≤ 8184 ∧ Has w g 98 (wcells bs)


set_option maxHeartbeats 400000 in
theorem put_wide (p : Value) (n k : Int) (h : k < 1 ∨ 32 < k) (w : World) :
    Calls Tryd.prog 62 #[p, .int .i64 n, .int .i64 k] w fun e w' => e = .returned (.int .i64 1) ∧ w = w' := by
  go_enter Tryd.func62, Tryd.ntmps62
  go_wp2_with (first | (go_at_call 73; refine (widthFits_no _ h _).mono ?_; rintro e w' ⟨rfl, rfl⟩))
  go_ret
  exact ⟨rfl, rfl⟩

set_option maxHeartbeats 400000 in
theorem put_low (p : Value) (n k : Int) (h1 : 1 ≤ k) (h2 : k ≤ 32) (h : n < 0) (w : World) :
    Calls Tryd.prog 62 #[p, .int .i64 n, .int .i64 k] w fun e w' => e = .returned (.int .i64 1) ∧ w = w' := by
  go_enter Tryd.func62, Tryd.ntmps62
  go_wp2_with (first | (go_at_call 73; refine (widthFits_yes _ h1 h2 _).mono ?_; rintro e w' ⟨rfl, rfl⟩))
  go_ret
  exact ⟨rfl, rfl⟩


theorem top_of (k : Int) (h1 : 1 ≤ k) (h2 : k ≤ 32) : wrap64 (wrap64 (2 ^ k.toNat) - 1) = ((2 ^ k.toNat : Nat) : Int) - 1 := by
  have e : ((2 : Int) ^ k.toNat) = ((2 ^ k.toNat : Nat) : Int) := by simp
  have h : (2 : Nat) ^ k.toNat ≤ 2 ^ 32 := Nat.pow_le_pow_right (by omega) (by omega)
  have h0 : 0 < (2 : Nat) ^ k.toNat := Nat.two_pow_pos _
  rw [e]
  generalize (2 : Nat) ^ k.toNat = m at *
  have e1 : wrap64 (m : Int) = m := IntWalk.wrap64_in _ (by omega)
  rw [e1]
  exact IntWalk.wrap64_in _ (by omega)

set_option maxHeartbeats 400000 in
theorem put_high (p : Value) (n k : Int) (h1 : 1 ≤ k) (h2 : k ≤ 32) (h : ((2 ^ k.toNat : Nat) : Int) ≤ n) (w : World) :
    Calls Tryd.prog 62 #[p, .int .i64 n, .int .i64 k] w fun e w' => e = .returned (.int .i64 1) ∧ w = w' := by
  have h' : ¬ n < 0 := by have := Nat.two_pow_pos k.toNat; omega
  have ht : wrap64 (wrap64 (2 ^ k.toNat) - 1) < n := by rw [top_of k h1 h2]; omega
  clear h
  go_enter Tryd.func62, Tryd.ntmps62
  go_wp2_with (first | (go_at_call 73; refine (widthFits_yes _ h1 h2 _).mono ?_; rintro e w' ⟨rfl, rfl⟩))
  go_ret
  exact ⟨rfl, rfl⟩

set_option maxHeartbeats 400000 in
theorem put_none (n k : Int) (h1 : 1 ≤ k) (h2 : k ≤ 32) (h3 : 0 ≤ n) (h : n < ((2 ^ k.toNat : Nat) : Int)) (w : World) :
    Calls Tryd.prog 62 #[.pointer none, .int .i64 n, .int .i64 k] w fun e w' => e = .returned (.int .i64 2) ∧ w = w' := by
  have h' : ¬ n < 0 := by omega
  have ht : ¬ wrap64 (wrap64 (2 ^ k.toNat) - 1) < n := by rw [top_of k h1 h2]; omega
  clear h
  go_enter Tryd.func62, Tryd.ntmps62
  go_wp2_with (first | (go_at_call 73; refine (widthFits_yes _ h1 h2 _).mono ?_; rintro e w' ⟨rfl, rfl⟩))
  go_ret
  exact ⟨rfl, rfl⟩

set_option maxHeartbeats 400000 in
theorem put_full (g : Nat) (bs : List Bool) (n k : Int) (h1 : 1 ≤ k) (h2 : k ≤ 32) (h3 : 0 ≤ n) (h : n < ((2 ^ k.toNat : Nat) : Int)) (w : World) (hw : IsW w g bs) (hf : 8184 < bs.length + k) :
    Calls Tryd.prog 62 #[.pointer (some ⟨g, 0, none⟩), .int .i64 n, .int .i64 k] w fun e w' => e = .returned (.int .i64 2) ∧ w = w' := by
  have h' : ¬ n < 0 := by omega
  have ht : ¬ wrap64 (wrap64 (2 ^ k.toNat) - 1) < n := by rw [top_of k h1 h2]; omega
  clear h
  have hl := hw.1
  have hc : w.cell? ⟨g, 1023, none⟩ = some (.int .i64 bs.length) := by rw [hw.2.cell, wcells_held]
  go_enter Tryd.func62, Tryd.ntmps62
  go_wp2_with (first | (go_at_call 73; refine (widthFits_yes _ h1 h2 _).mono ?_; rintro e w' ⟨rfl, rfl⟩))
  go_ret
  exact ⟨rfl, rfl⟩

set_option maxRecDepth 100000 in
set_option maxHeartbeats 1000000 in
theorem put_fits (g : Nat) (bs : List Bool) (n k : Nat) (h1 : 1 ≤ k) (h2 : k ≤ 32) (h : n < 2 ^ k) (w : World) (hw : IsW w g bs) (hf : bs.length + k ≤ 8184) :
    Calls Tryd.prog 62 #[.pointer (some ⟨g, 0, none⟩), .int .i64 n, .int .i64 k] w fun e w' =>
      e = .returned (.int .i64 0) ∧ IsW w' g (bs ++ wbits n k k) ∧ w.grownBy w' (some g) := by
  have h' : ¬ (n : Int) < 0 := by omega
  have ht : ¬ wrap64 (wrap64 (2 ^ k) - 1) < (n : Int) := by have := top_of k (by omega) (by omega); simp only [Int.toNat_natCast] at this; rw [this]; omega
  have hl := hw.1
  have hc : w.cell? ⟨g, 1023, none⟩ = some (.int .i64 bs.length) := by rw [hw.2.cell, wcells_held]
  have h1' : (1 : Int) ≤ k := by omega
  have h2' : (k : Int) ≤ 32 := by omega
  go_enter Tryd.func62, Tryd.ntmps62
  go_wp2_with (first | (go_at_call 73; refine (widthFits_yes _ h1' h2' _).mono ?_; rintro e w' ⟨rfl, rfl⟩))
  go_loopw [7] (fun s wr => ∃ j : Nat, j ≤ k ∧ s = .int .i64 ((k : Int) - 1 - j) ∧ IsW wr g (bs ++ wbits n k j) ∧ w.grownBy wr (some g)) (fun s _ => (intOf s + 1).toNat)
  case atStart => exact ⟨0, by omega, by simp, by simpa [wbits_zero] using hw, only_refl _ _⟩
  case round =>
    obtain ⟨j, hj, rfl, hwj, hg⟩ := hrel
    obtain ⟨L, hL⟩ : ∃ L, L = bs.length + j := ⟨_, rfl⟩
    have hlen : (bs ++ wbits n k j).length = L := by simp [wbits_length, hL]
    have hcj : wr.cell? ⟨g, 1023, none⟩ = some (.int .i64 L) := by rw [hwj.2.cell, wcells_held, hlen]
    by_cases hlt : j < k
    · have hbj : wr.cell? ⟨g, L / 8, none⟩ = some (.int .u8 (byteAt (bs ++ wbits n k j) (L / 8))) := by rw [hwj.2.cell, wcells_byte _ _ (by omega)]
      have hfz := hwj.2.thaw (L / 8)
      have hfz2 := hwj.2.thaw 1023
      have hLb : L < 8184 := by omega
      have HL := Lib.hid hL; clear hL
      have Hlen := Lib.hid hlen; clear hlen
      clear hc
      have HW := Lib.hid hwj; clear hwj
      have HG := Lib.hid hg; clear hg
      have x0 : (0 : Int) ≤ (L : Int) / 8 := by omega
      have x1 : (L : Int) / 8 < 1023 := by omega
      go_wp2_with fail
      have e1 : IntKind.i64.wrap ((L : Int) / 8) = (L : Int) / 8 := IntWalk.i64_in _ (by omega)
      have e2 : ((L : Int) / 8).toNat = L / 8 := by omega
      go_still_tail 25, (by kernel_rfl)
      repeat still_step
      still_call ((bitShift_any (L : Int) (by omega) (by omega) _).mono fun _ _ h => ⟨h.1, h.2.symm⟩)
      repeat still_step
      refine wpStill_nil ?_
      change wpList _ _ _ _ _ wr.drew
      go_wp2_with fail
      go_roundw
      case rel =>
        have HW' := HW.out
        have hb := put_byte (byteAt (bs ++ wbits n k j) (L / 8)) n (k - 1 - j) (7 - L % 8) (byteAt_lt _ _) (by have : (2 : Nat) ^ k ≤ 2 ^ 32 := Nat.pow_le_pow_right (by omega) h2; omega) (by omega)
        have hlen := Hlen.out
        refine ⟨j + 1, by omega, by go_num, ⟨by simp [wbits_length]; omega, ?_⟩, ?_⟩
        · rw [wbits_succ, ← List.append_assoc, ← wcells_snoc _ _ (by omega), hlen]
          have hs := byteAt_snoc_same (bs ++ wbits n k j) (n.testBit (k - 1 - j))
          rw [hlen] at hs
          rw [hs, ← hb]
          have hL1 : ((L : Int) + 1) = (((bs ++ wbits n k j ++ [n.testBit (k - 1 - j)]).length : Nat) : Int) := by rw [List.length_append, hlen]; simp
          rw [← hL1]
          exact ((HW'.2.stored _ _).stored _ _).draw
        · exact only_draw (only_store (only_store HG.out rfl _) rfl _)
      case measure => simp [intOf]; omega
    · go_wp2
      go_ret
      obtain rfl : j = k := by omega
      exact ⟨rfl, hwj, hg⟩
end Go.Proofs.YtamnhnleipnhdaaDoor

/-
  (*bits.Writer).Len and Bytes.
-/
namespace Go.Proofs.YtamnhnleipnhdaaDoor

open Go.RowKit

open BitsM
/-- The bytes that a writer with these bits hands out. -/
def outBytes (bs : List Bool) : List Nat := (List.range ((bs.length + 7) / 8)).map (byteAt bs)
theorem outBytes_length (bs : List Bool) : (outBytes bs).length = (bs.length + 7) / 8 := by simp [outBytes]
theorem bytes_none (w : World) : Calls Tryd.prog 63 #[.pointer none] w fun e w' => e = .returned (.slice none 0 0) ∧ w = w' := by
  go_enter Tryd.func63, Tryd.ntmps63
  go_wp2
  go_ret
  exact ⟨rfl, rfl⟩

set_option maxHeartbeats 400000 in
theorem bytes_any (g : Nat) (bs : List Bool) (w : World) (hw : IsW w g bs) :
    Calls Tryd.prog 63 #[.pointer (some ⟨g, 0, none⟩)] w fun e w' =>
      e = .returned (.slice (some ⟨w.heap.size, 0, none⟩) (outBytes bs).length (outBytes bs).length) ∧ Has w' w.heap.size 5 (u8s (outBytes bs)).toArray ∧ Below w.heap.size w w' := by
  have hc : w.cell? ⟨g, 1023, none⟩ = some (.int .i64 bs.length) := by rw [hw.2.cell, wcells_held]
  have hl := hw.1
  obtain ⟨n, hn⟩ : ∃ n, n = (bs.length + 7) / 8 := ⟨_, rfl⟩
  have hmk : ∀ w, (Instr.makeSlice 28 (.int .i64 (((bs.length : Int) + 7) / 8)) (.int .i64 (((bs.length : Int) + 7) / 8))).run Tryd.prog w = .ok (.slice (some ⟨w.heap.size, 0, none⟩) n n) (w.alloc (.cells (madeCells #[.int .u8 0] n) 5)) := by
    intro w
    have h := run_make_row' (P := Tryd.prog) 28 5 (.int .u8 0) 1 Tryd.underlying28 info_u8 rfl .i64 .i64 n (by omega) (by omega) w
    have e : ((n : Nat) : Int) = ((bs.length : Int) + 7) / 8 := by omega
    rw [e] at h
    exact h
  have hlen : (outBytes bs).length = n := by rw [outBytes_length, hn]
  have hn2 : n ≤ 1023 := by omega
  have HM : Hid ((w.alloc (.cells (madeCells #[.int .u8 0] n) 5)).heap[w.heap.size]? = some (.cells (List.replicate n (.int .u8 0)).toArray 5 (0, 0))) := made_row w _ _ _
  have HC : Hid ((u8s (outBytes bs)).length = Nat.min 1023 n) := by
    show _ = min 1023 n
    rw [u8s_length, hlen]; omega
  have HF : Hid (0 + (u8s (outBytes bs)).length ≤ (List.replicate n (Value.int .u8 0)).length) := by
    show _ ≤ _
    rw [u8s_length, hlen]; simp
  have HP : Hid (0 < (u8s (outBytes bs)).length → (some ⟨w.heap.size, 0, none⟩ : Option Addr) = some ⟨w.heap.size, 0, none⟩ ∧ ∃ ad, (some ⟨g, 0, none⟩ : Option Addr) = some ad ∧
      ∀ j v, (u8s (outBytes bs))[j]? = some v → (w.alloc (.cells (madeCells #[.int .u8 0] n) 5)).cell? (ad.add j) = some v) := by
    intro _
    refine ⟨rfl, ⟨g, 0, none⟩, rfl, ?_⟩
    intro j v hv
    have hj : j < n := by
      have := (List.getElem?_eq_some_iff.1 hv).1
      rw [u8s_length, hlen] at this
      exact this
    have e : (⟨g, 0, none⟩ : Addr).add j = ⟨g, j, none⟩ := by unfold Addr.add; split <;> simp_all
    rw [e, (hw.2.beside _).cell, wcells_byte _ _ (by omega), ← hv]
    have hj' : j < (bs.length + 7) / 8 := by omega
    simp [u8s, outBytes, hj']
  have HN := Lib.hid hn; clear hn
  have HL := Lib.hid hlen; clear hlen
  have HW := Lib.hid hw; clear hw
  go_enter Tryd.func63, Tryd.ntmps63
  go_wp2_with (with_reducible refine wpList_copy_splice (o := ⟨some 18, _, _, _, _, _⟩) rfl (.tmp 13) (.tmp 17) 28 28 rfl 5 Tryd.underlying28 size_u8 (some ⟨w.heap.size, 0, none⟩) (some ⟨g, 0, none⟩) n n 1023 1023 ?hd ?hs w.heap.size 0 (List.replicate n (.int .u8 0)) 5 HM.out (u8s (outBytes bs)) HC.out HP.out HF.out (u8s_one _) w.heap.size w (Below.alloc (Below.refl _ _) (Nat.le_refl _) _) (Nat.le_refl _) ?next)
  case next =>
    intro w1 H1 hb1
    go_wp2
    go_ret
    have h1 := H1.out
    rw [splice_all _ _ (by rw [u8s_length, HL.out]; simp)] at h1
    rw [HL.out]
    exact ⟨rfl, h1, hb1⟩
end Go.Proofs.YtamnhnleipnhdaaDoor
