/-
  Rows of the call's own whose elements take any number of cells: copy, clear, and what the lists are behind them. No function of the program is named here.
-/
import Derived.Test.YtbohoejikihnfaaLkMem

import Derived.Laws.CopyRow

import Derived.Lib.AppendZerosOnto

import Derived.Lib.Overlaps

namespace Go.Proofs.Ytbohoejikihnfaa

open Go.RowKit

def spl12 (X : List Value) (o : Nat) (cs : List Value) : List Value := X.take o ++ cs ++ X.drop (o + cs.length)
theorem spl12_len (X : List Value) (o : Nat) (cs : List Value) (h : o + cs.length ≤ X.length) : (spl12 X o cs).length = X.length := by
  unfold spl12
  simp; omega
theorem own_has12 {w : World} {base : Nat} {e : TypeId} {size n c : Nat} {ad : Addr} {xs : List Value} (h : w.ownsRow base e size (.slice (some ad) n c) n xs) :
    ∃ g cur, ad = ⟨g, 0, none⟩ ∧ base ≤ g ∧ Has w g e cur ∧ n ≤ c ∧ c ≤ maxLen ∧ cur.size = c * size ∧ cur.toList.take (n * size) = xs := by
  rcases h.2 with ⟨h', _⟩ | ⟨g, cap, cur, h', hb, hg, hnc, hcm, hcs, htake⟩
  · simp at h'
  · simp only [Value.slice.injEq, Option.some.injEq, true_and] at h'
    obtain ⟨rfl, rfl⟩ := h'
    exact ⟨g, cur, rfl, hb, hg, hnc, hcm, hcs, htake⟩
theorem has_own12 {w : World} {base : Nat} {e : TypeId} {size n c g : Nat} {cur : Array Value} {xs : List Value} (hb : base ≤ g) (hg : Has w g e cur) (hnc : n ≤ c) (hcm : c ≤ maxLen) (hcs : cur.size = c * size) (ht : cur.toList.take (n * size) = xs) :
    w.ownsRow base e size (.slice (some ⟨g, 0, none⟩) n c) n xs := by
  refine ⟨?_, .inr ⟨g, c, cur, rfl, hb, hg, hnc, hcm, hcs, ht⟩⟩
  rw [← ht, List.length_take, Array.length_toList, hcs]
  exact Nat.min_eq_left (Nat.mul_le_mul_right _ hnc)

section

variable {P : Program}
theorem run_copy_row12 (w : World) (dT sT ty elem : TypeId) (s g o dLen dCap : Nat) (a : Addr) (sLen sCap : Nat) (cur : Array Value) (t : TypeId) (cs : List Value) (k : Nat)
    (hu : P.underlying dT = some (.slice elem)) (hs : (P.info? elem).map (·.size) = some s)
    (hg : Has w g t cur) (hk : Nat.min sLen dLen = k) (hn : cs.length = k * s)
    (hsrc : ∀ j v, cs[j]? = some v → w.cell? (a.add j) = some v) (hfit : o + cs.length ≤ cur.size) (h1 : ∀ v ∈ cs, v.oneCell' = true) :
    (Builtin.copy_ #[dT, sT] ty #[.slice (some ⟨g, o, none⟩) dLen dCap, .slice (some a) sLen sCap]).run P w =
      .ok (goInt k) (w.setRow g (spl12 cur.toList o cs).toArray) := by
  have hl := run_loadCells_list (P := P) w a cs hsrc
  have hst := run_storeCells_at P g o t cs 0 cur w hg (by simpa using hfit) h1
  cases hq : P.info? elem with
  | none => simp [hq] at hs
  | some i =>
    have hi : i.size = s := by simpa [hq] using hs
    simp [Builtin.copy_, run_underlying hu, Builtin.lenOf, Builtin.firstCells, sizeOf, typeInfo, hq, hi, hk, ← hn, hl, hst, spl12]
theorem run_clear_row12 (w : World) (t e ty : TypeId) (z : Value) (ht : P.underlying t = some (.slice e)) (hv : ∀ w, (zeroValue e).run P w = .ok z w) (h1 : ∀ v ∈ z.cells.toList, v.oneCell' = true) (g o n c : Nat) (cur : Array Value)
    (hg : Has w g e cur) (hfit : o + n * z.cells.size ≤ cur.size) (h0 : 0 < n) :
    (Builtin.clear_ #[t] ty #[.slice (some ⟨g, o, none⟩) n c]).run P w = .ok (.tuple #[]) (w.setRow g (spl12 cur.toList o (Builtin.zeroCells z.cells n).toList).toArray) := by
  have hst := run_storeCells_at P g o e (Builtin.zeroCells z.cells n).toList 0 cur w hg (by simpa [Builtin.zeroCells] using hfit) (fun v hv' => by
    obtain ⟨i, hi, rfl⟩ := List.getElem_of_mem hv'
    simp [Builtin.zeroCells] at hi ⊢
    exact h1 _ (by
      have hp : 0 < z.cells.size := by
        rcases Nat.eq_zero_or_pos z.cells.size with h | h
        · rw [h] at hi; simp at hi
        · exact h
      rw [getElem!_pos z.cells _ (Nat.mod_lt _ hp)]
      simp))
  obtain ⟨m, rfl⟩ : ∃ m, n = m + 1 := ⟨n - 1, by omega⟩
  simp only [Nat.add_zero] at hst
  simp [Builtin.clear_, run_underlying ht, hv, hst, spl12]
end

theorem has_set12 {w : World} {g : Nat} {t : TypeId} {old : Array Value} (h : Has w g t old) (cs : Array Value) : Has (w.setRow g cs) g t cs := has_row11 h cs
/-- What stands behind a move to the right by s and a store into the gap. -/
theorem ins_list12 (X news : List Value) (a s L : Nat) (hs : news.length = s) (hX : a + s + L ≤ X.length) :
    (spl12 (spl12 X (a + s) ((X.drop a).take L)) a news).take (a + s + L) = X.take a ++ news ++ (X.take (a + L)).drop a := by
  have hl : ((X.drop a).take L).length = L := by simp; omega
  have e1 : (spl12 X (a + s) ((X.drop a).take L)).take a = X.take a := by
    unfold spl12
    rw [List.append_assoc, List.take_append_of_le_length (by simp; omega), List.take_take, Nat.min_eq_left (by omega)]
  have e2 : (spl12 X (a + s) ((X.drop a).take L)).drop (a + s) = (X.drop a).take L ++ X.drop (a + s + L) := by
    unfold spl12
    rw [List.append_assoc, List.drop_append_of_le_length (by simp; omega), List.drop_eq_nil_of_le (by simp; omega), List.nil_append, hl]
  rw [spl12, e1, hs, e2, List.drop_take, Nat.add_sub_cancel_left, ← List.append_assoc, List.take_append_of_le_length (by simp; omega)]
  refine List.take_of_length_le ?_
  simp; omega
/-- What stands behind a new row with a gap, the gap filled, then the rest. -/
theorem grow_list12 (xs news zs : List Value) (a s : Nat) (hs : news.length = s) (ha : a ≤ xs.length) :
    (spl12 (spl12 (xs.take a ++ zs) a news) (a + s) (xs.drop a)).take (s + xs.length) = xs.take a ++ news ++ xs.drop a := by
  have e1 : (spl12 (xs.take a ++ zs) a news).take (a + s) = xs.take a ++ news := by
    unfold spl12
    have hl : (List.take a (xs.take a ++ zs) ++ news).length = a + s := by simp; omega
    rw [List.take_append_of_le_length (by rw [hl]; exact Nat.le_refl _), List.take_of_length_le (by rw [hl]; exact Nat.le_refl _), List.take_append_of_le_length (by simp; omega), List.take_take, Nat.min_self]
  rw [spl12, e1, List.take_append_of_le_length (by simp; omega)]
  refine List.take_of_length_le ?_
  simp; omega
/-- What stands behind a move to the left by s. -/
theorem del_list12 (X Z : List Value) (a s L : Nat) (hX : a + s + L ≤ X.length) (hZ : Z.length = s) :
    (spl12 (spl12 X a ((X.drop (a + s)).take L)) (a + L) Z).take (a + L) = X.take a ++ (X.take (a + s + L)).drop (a + s) := by
  have hl : ((X.drop (a + s)).take L).length = L := by simp; omega
  have h1 : (X.take a ++ (X.drop (a + s)).take L).length = a + L := by simp; omega
  have e1 : (spl12 X a ((X.drop (a + s)).take L)).take (a + L) = X.take a ++ (X.drop (a + s)).take L := by
    unfold spl12
    rw [List.take_append_of_le_length (by rw [h1]; exact Nat.le_refl _), List.take_of_length_le (by rw [h1]; exact Nat.le_refl _)]
  rw [spl12, e1, List.append_assoc, List.take_append_of_le_length (by rw [h1]; exact Nat.le_refl _), List.take_of_length_le (by rw [h1]; exact Nat.le_refl _), List.drop_take, show a + s + L - (a + s) = L by omega]
end Go.Proofs.Ytbohoejikihnfaa
