/-
  Rows of elements of any size, of the call's own: what is appended, what is stored into one. No function and no type is named.
-/
import Derived.Test.YteioefgckigbcaaTpMem

import Derived.IntWalk

namespace Go.Proofs.Yteioefgckigbcaa

open Go.RowKit

/-! One more, one less: the walk's two spellings. -/
theorem succ_w {j j1 : Nat} (h : j + 1 = j1) (hb : j ≤ 1000000000) : wrap64 ((j : Int) + 1) = (j1 : Int) := by
  rw [IntWalk.wrap64_in _ (by omega)]
  omega
theorem succ_k {j j1 : Nat} (h : j + 1 = j1) (hb : j ≤ 1000000000) : IntKind.i64.wrap ((j : Int) + 1) = (j1 : Int) := by
  rw [IntKind.wrap_i64]
  omega
theorem pred_w {j k : Nat} (h : k + 1 = j) (hb : j ≤ 1000000000) : wrap64 ((j : Int) - 1) = (k : Int) := by
  rw [IntWalk.wrap64_in _ (by omega)]
  omega
theorem pred_k {j k : Nat} (h : k + 1 = j) (hb : j ≤ 1000000000) : IntKind.i64.wrap ((j : Int) - 1) = (k : Int) := by
  rw [IntKind.wrap_i64]
  omega
/-- A row of the call's own: n elements of k cells each, as f says. -/
def OwR {α : Type} (f : α → List Value) (k : Nat) (e : TypeId) (base : Nat) (w : World) (A : Option Addr) (n c : Nat) (l : List α) : Prop := w.ownsRow base e k (.slice A n c) n (l.flatMap f) ∧ l.length = n
section

variable {α : Type} {f : α → List Value} {k : Nat} {e : TypeId} {base : Nat} {w w' : World} {A : Option Addr} {n c : Nat} {l : List α}
theorem OwR.nil (f : α → List Value) (k : Nat) (e : TypeId) (base : Nat) (w : World) : OwR f k e base w none 0 0 [] := ⟨World.ownsRow_nil _ _ _ _, rfl⟩
theorem OwR.under (h : OwR f k e base w A n c l) (hb : Below w.heap.size w w') : OwR f k e base w' A n c l := ⟨own_under h.1 hb (Nat.le_refl _), h.2⟩
theorem OwR.ne (h : OwR f k e base w A n c l) {g : Nat} (hg : w.heap.size ≤ g) : (Value.slice A n c).ownBlock ≠ some g := fun e => by
  have := (h.1.lt g e).2
  omega
theorem OwR.low (h : OwR f k e base w A n c l) {ad : Addr} (ha : A = some ad) : base ≤ ad.block := by
  subst ha
  exact (h.1.lt ad.block rfl).1
theorem OwR.lt (h : OwR f k e base w A n c l) {ad : Addr} (ha : A = some ad) : ad.block < w.heap.size := by
  subst ha
  exact (h.1.lt ad.block rfl).2
theorem OwR.sl (h : OwR f k e base w A n c l) : SlO f k w A n c l := ⟨h.2, Sl.of_own h.1⟩
theorem OwR.cap (h : OwR f k e base w A n c l) : n ≤ c := by
  rcases h.1.2 with ⟨h1, h2⟩ | ⟨g, cap, cur, h1, _, _, h2, _⟩
  · omega
  · injection h1 with _ _ h1
    omega
theorem OwR.kept {row : Option Nat} (h : OwR f k e base w A n c l) (hg : w.grownBy w' row) (hne : (Value.slice A n c).ownBlock = none ∨ (Value.slice A n c).ownBlock ≠ row) : OwR f k e base w' A n c l := ⟨h.1.kept hg hne, h.2⟩
theorem OwR.apart {g : Nat} {t : TypeId} {cs : Array Value} (h : OwR f k e base w A n c l) (hg : Has w g t cs) (hne : e ≠ t) : (Value.slice A n c).ownBlock ≠ some g := own_apart h.1 hg hne
theorem OwR.draws (h : OwR f k e base w A n c l) (m : Nat) : OwR f k e base (w.drewN m) A n c l := h
theorem OwR.to_base {base' : Nat} (h : OwR f k e base w A n c l) (hb : base' ≤ base) : OwR f k e base' w A n c l := by
  refine ⟨⟨h.1.1, ?_⟩, h.2⟩
  rcases h.1.2 with h1 | ⟨g, cap, cur, h1, h2, h3⟩
  · exact .inl h1
  · exact .inr ⟨g, cap, cur, h1, Nat.le_trans hb h2, h3⟩
/-- Two rows of different elements lie apart. -/
theorem OwR.two {β : Type} {f' : β → List Value} {k' : Nat} {e' : TypeId} {base' : Nat} {A' : Option Addr} {n' c' : Nat} {l' : List β} (h : OwR f k e base w A n c l) (h' : OwR f' k' e' base' w A' n' c' l') (hne : e ≠ e') : (Value.slice A n c).ownBlock = none ∨ (Value.slice A n c).ownBlock ≠ (Value.slice A' n' c').ownBlock := by
  cases A with
  | none => exact .inl rfl
  | some ad =>
    refine .inr fun he => ?_
    cases A' with
    | none => cases he
    | some ad' =>
      rcases h.1.2 with ⟨h1, _⟩ | ⟨g, cap, cur, h1, _, h3, _⟩
      · cases h1
      · rcases h'.1.2 with ⟨h4, _⟩ | ⟨g', cap', cur', h4, _, h6, _⟩
        · cases h4
        · injection h1 with h1
          injection h1 with h1
          injection h4 with h4
          injection h4 with h4
          subst h1 h4
          have he : g = g' := by simpa [Value.ownBlock] using he
          subst he
          rw [h3] at h6
          simp only [Option.some.injEq, Obj.cells.injEq] at h6
          exact hne h6.2.1
def PushR (f : α → List Value) (k : Nat) (e : TypeId) (bytes base : Nat) (w : World) (g : Nat) (A : Option Addr) (n c : Nat) (l : List α) (x : α) : Prop :=
  Hid ((f x).length = 1 * k) ∧ Hid (w.ownsRow base e k (.slice A n c) n (l.flatMap f)) ∧ Hid (∀ j u, (f x)[j]? = some u → w.cell? ((⟨g, 0, none⟩ : Addr).add j) = some u) ∧ Hid (∀ u ∈ f x, u.oneCell' = true) ∧ Hid (n + 1 ≤ maxLen ∧ (n + 1) * bytes ≤ 140737488355328 ∧ base ≤ w.heap.size)
/-- x lies in a block made for it. -/
theorem pushR (bytes : Nat) (x : α) (cs : Array Value) (hcs : cs.toList = f x) (hk : (f x).length = k) (h1 : ∀ u ∈ f x, u.oneCell' = true) (ho : OwR f k e base w A n c l) (hb : base ≤ w.heap.size) (hn : n ≤ 1048576) (hby : bytes ≤ 65536) : PushR f k e bytes base (w.alloc (.cells cs e)) w.heap.size A n c l x := by
  refine ⟨Lib.hid (by rw [hk]; omega), Lib.hid (ho.1.alloc _), Lib.hid fun j u hu => ?_, Lib.hid h1, Lib.hid ⟨by unfold maxLen; omega, ?_, by simp; omega⟩⟩
  · rw [WideShapes.add_plain, (Has.made w e _).cell, Nat.zero_add, ← Array.getElem?_toList, hcs]
    exact hu
  · have := Nat.mul_le_mul (show n + 1 ≤ 1048577 by omega) hby
    omega
theorem OwR.snoc {x : α} (hl : l.length = n) (ho : w.ownsRow base e k (.slice A (n + 1) c) (n + 1) (l.flatMap f ++ f x)) : OwR f k e base w A (n + 1) c (l ++ [x]) :=
  ⟨by rw [List.flatMap_append]; simpa using ho, by simp [hl]⟩
theorem OwR.poured {m : Nat} {l' : List α} (hl : l.length = n) (hl' : l'.length = m) (ho : w.ownsRow base e k (.slice A (n + m) c) (n + m) (l.flatMap f ++ l'.flatMap f)) : OwR f k e base w A (n + m) c (l ++ l') :=
  ⟨by rw [List.flatMap_append]; exact ho, by simp [hl, hl']⟩
/-- A slice of such elements is appended. -/
theorem pourR (bytes : Nat) {B : Option Addr} {m cc : Nat} {l' : List α} (ho : OwR f k e base w A n c l) (hs : SlO f k w B m cc l') (h1 : ∀ x, ∀ u ∈ f x, u.oneCell' = true) (hb : base ≤ w.heap.size) (hn : n + m ≤ 1048576) (hby : bytes ≤ 65536) :
    Hid (w.ownsRow base e k (.slice A n c) n (l.flatMap f)) ∧ Hid (Sl w k B m cc (l'.flatMap f)) ∧ Hid (∀ u ∈ l'.flatMap f, u.oneCell' = true) ∧ Hid (n + m ≤ maxLen ∧ (n + m) * bytes ≤ 140737488355328 ∧ base ≤ w.heap.size) := by
  refine ⟨Lib.hid ho.1, Lib.hid hs.2, Lib.hid fun u hu => ?_, Lib.hid ⟨by unfold maxLen; omega, ?_, hb⟩⟩
  · obtain ⟨x, _, h⟩ := List.mem_flatMap.1 hu
    exact h1 x u h
  · have := Nat.mul_le_mul hn hby
    omega
/-- The row's block, as a whole. -/
theorem OwR.has {ad : Addr} (h : OwR f k e base w (some ad) n c l) : ∃ g cur, ad = ⟨g, 0, none⟩ ∧ base ≤ g ∧ Has w g e cur ∧ n ≤ c ∧ c ≤ maxLen ∧ cur.size = c * k ∧ cur.toList.take (n * k) = l.flatMap f := by
  rcases h.1.2 with ⟨h', _⟩ | ⟨g, cap, cur, h', hb, hg, hnc, hcm, hcs, htake⟩
  · cases h'
  · injection h' with h1 h2 h3
    injection h1 with h1
    subst h1 h3
    exact ⟨g, cur, rfl, hb, hg, hnc, hcm, hcs, htake⟩
/-- One cell of the row turns: the row's elements are others. -/
theorem OwR.set {ad : Addr} {l' : List α} (h : OwR f k e base w (some ad) n c l) {j : Nat} {u : Value} (hl : l'.length = n) (hs : l'.flatMap f = (l.flatMap f).set j u) : OwR f k e base (w.setCell ⟨ad.block, j, none⟩ u) (some ad) n c l' := by
  obtain ⟨g, cur, rfl, hb, hg, hnc, hcm, hcs, ht⟩ := h.has
  refine ⟨⟨?_, .inr ⟨g, c, cur.setIfInBounds j u, rfl, hb, hg.stored j u, hnc, hcm, by simpa using hcs, ?_⟩⟩, hl⟩
  · rw [hs, List.length_set]
    exact h.1.1
  · rw [Array.toList_setIfInBounds, List.take_set, ht, hs]
theorem OwR.block {ad : Addr} (h : OwR f k e base w (some ad) n c l) : ad = ⟨ad.block, 0, none⟩ := by
  obtain ⟨g, cur, rfl, _⟩ := h.has
  rfl
theorem OwR.thaw {ad : Addr} (h : OwR f k e base w (some ad) n c l) (j : Nat) : w.frozen? ⟨ad.block, j, none⟩ = false := by
  obtain ⟨g, cur, rfl, _, hg, _⟩ := h.has
  exact hg.thaw j
/-- A row that is not empty lies in a block. -/
theorem OwR.some (h : OwR f k e base w A n c l) (hn : 0 < n) : ∃ g, A = some ⟨g, 0, none⟩ ∧ base ≤ g ∧ g < w.heap.size := by
  rcases h.1.2 with ⟨_, h2⟩ | ⟨g, cap, cur, h', hb, hg, _⟩
  · omega
  · injection h' with h1
    exact ⟨g, h1, hb, (Array.getElem?_eq_some_iff.1 hg).1⟩
/-- The row grew: nothing that was there ahead of it has turned. -/
theorem below_owr {w0 : World} {B : Nat} (h : Below B w0 w) (hB : B ≤ w.heap.size) (ho : OwR f k e base w A n c l) (hbase : B ≤ base) (hg : w.grownBy w' (Value.slice A n c).ownBlock) : Below B w0 w' := below_own h hB ho.1 hbase rfl hg
end
theorem sl_hasR {W : World} {g : Nat} {t : TypeId} {n s : Nat} {vs : List Value} (h : Has W g t vs.toArray) (hn : vs.length = n * s) : Sl W s (some ⟨g, 0, none⟩) n n vs := by
  refine ⟨hn, (fun e => by cases e), fun ad ha j u hu => ?_⟩
  injection ha with ha
  subst ha
  rw [WideShapes.add_plain, h.cell, Nat.zero_add]
  simpa using hu
theorem SlO.at_cell {α : Type} {f : α → List Value} {k : Nat} {w : World} {b off n c : Nat} {l : List α} (h : SlO f k w (some ⟨b, off, none⟩) n c l) (hf : ∀ x, (f x).length = k) (hk : 0 < k) {j : Nat} {x : α} (hx : l[j]? = some x) {i : Nat} {u : Value} (hu : (f x)[i]? = some u) : w.cell? ⟨b, off + j * k + i, none⟩ = some u := by
  obtain ⟨b', o', e, hc⟩ := h.at_ hf hk hx
  injection e with e
  injection e with e1 e2 _
  subst e1 e2
  exact hc i u hu
end Go.Proofs.Yteioefgckigbcaa
