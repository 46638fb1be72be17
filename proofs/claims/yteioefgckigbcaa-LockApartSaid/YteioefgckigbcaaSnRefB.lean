/-
  linesideref15, by contract: Form.
-/
import Derived.Test.YteioefgckigbcaaSnRefA

import Derived.BigQuiet

import Derived.IntWalk

namespace Go.Proofs.Yteioefgckigbcaa

open Go.RowKit

open Go.Great

theorem flat_set15 (o : List Sn3) (s : Sn3) (y : Int) : (o ++ [(⟨s.edge, s.lo, y⟩ : Sn3)]).flatMap snC = ((o ++ [s]).flatMap snC).set (o.length * 3 + 2) (.int .i64 y) := by
  have hl := flat_len (f := snC) (k := 3) (fun _ => rfl) o
  rw [List.flatMap_append, List.flatMap_append, List.set_append_right _ _ (by rw [hl]; omega), hl, show o.length * 3 + 2 - o.length * 3 = 2 by omega]
  rfl
theorem own_hi15 {base ko co g : Nat} {w : World} {o : List Sn3} {s : Sn3} (h : OwR snC 3 80 base w (some ⟨g, 0, none⟩) ko co (o ++ [s])) (y : Int) : OwR snC 3 80 base (w.setCell ⟨g, (ko - 1) * 3 + 2, none⟩ (.int .i64 y)) (some ⟨g, 0, none⟩) ko co (setHi (o ++ [s]) y) := by
  have hl : o.length = ko - 1 := by
    have := h.2
    simp at this
    omega
  rw [setHi_snoc]
  exact h.set (by have := h.2; simp at this ⊢; omega) (by rw [flat_set15, hl])
theorem succ_j {j : Nat} (h : j ≤ 8000) : IntKind.i64.wrap ((j : Int) + 1) = (j : Int) + 1 := by
  rw [IntKind.wrap_i64]
  omega
theorem edges_take15 {l : List Sn3} {i : Nat} {x : Sn3} (hx : l[i]? = some x) : edgesF [] (l.take (i + 1)) = insL x.edge (edgesF [] (l.take i)) := by
  unfold edgesF
  rw [List.take_add_one, hx, List.foldl_append]
  rfl
theorem ends_take15 {l : List Sn3} {i : Nat} {x : Sn3} (hx : l[i]? = some x) : endsF [] (l.take (i + 1)) = insL x.hi (insL x.lo (endsF [] (l.take i))) := by
  unfold endsF
  rw [List.take_add_one, hx, List.foldl_append]
  rfl
theorem drop_at15 {α : Type} {l : List α} {i : Nat} {x : α} (hx : l[i]? = some x) : l.drop i = x :: l.drop (i + 1) := by
  obtain ⟨h1, e⟩ := List.getElem?_eq_some_iff.1 hx
  rw [List.drop_eq_getElem_cons h1, e]
theorem fin_stop15 (e : Int) (f : Int → Bool) (out : List Sn3) (o : Bool) {l : List Int} {j : Nat} (h : ¬ j + 1 < l.length) : fin15 e f out o (l.drop j) = out := by
  cases hq : l.drop j with
  | nil => rw [fin15]
  | cons x r =>
    have h1 : (l.drop j).length = r.length + 1 := by rw [hq]; rfl
    rw [List.length_drop] at h1
    obtain rfl : r = [] := List.eq_nil_of_length_eq_zero (by omega)
    rw [fin15]
theorem fin_step15 {e : Int} {f : Int → Bool} {out : List Sn3} {o : Bool} {l : List Int} {j : Nat} {x y : Int} (hx : l[j]? = some x) (hy : l[j + 1]? = some y) : fin15 e f out o (l.drop j) = if f x = true then (if o = true then fin15 e f (setHi out y) true (l.drop (j + 1)) else fin15 e f (out ++ [⟨e, x, y⟩]) true (l.drop (j + 1))) else fin15 e f out false (l.drop (j + 1)) := by
  rw [drop_at15 hx, drop_at15 hy, fin15, ← drop_at15 hy]
theorem setHi_len15 (l : List Sn3) (y : Int) : (setHi l y).length = l.length := by
  unfold setHi
  cases hq : l.getLast? with
  | none =>
    rw [List.getLast?_eq_none_iff.1 hq]
  | some s =>
    obtain ⟨m, rfl⟩ := List.getLast?_eq_some_iff.1 hq
    simp
theorem fin15_ge15 (e : Int) (f : Int → Bool) (out : List Sn3) (o : Bool) (l : List Int) : out.length ≤ (fin15 e f out o l).length := by
  induction l generalizing out o with
  | nil => exact Nat.le_of_eq (by rw [fin15])
  | cons x t ih =>
    cases t with
    | nil => exact Nat.le_of_eq (by rw [fin15])
    | cons y r =>
      rw [fin15]
      split
      · split
        · refine Nat.le_trans (Nat.le_of_eq ?_) (ih _ _)
          rw [setHi_len15]
        · refine Nat.le_trans ?_ (ih _ _)
          simp
      · exact ih _ _
theorem fin_ge15 (F : Int → Int → Bool) (en : List Int) (out : List Sn3) (l : List Int) : out.length ≤ (finE F en out l).length := by
  induction l generalizing out with
  | nil => exact Nat.le_refl _
  | cons e r ih => exact Nat.le_trans (fin15_ge15 _ _ _ _ _) (ih _)
theorem snoc15 {α : Type} {l : List α} (h : l ≠ []) : ∃ o s, l = o ++ [s] := ⟨l.dropLast, l.getLast h, (List.dropLast_concat_getLast h).symm⟩

end Go.Proofs.Yteioefgckigbcaa
