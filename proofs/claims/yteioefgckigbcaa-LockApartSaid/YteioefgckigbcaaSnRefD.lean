/-
  linesideref15, by contract: Over.
-/
import Derived.Test.YteioefgckigbcaaSnRefC

import Derived.Test.YteioefgckigbcaaTpLenE

import Derived.BigQuiet

import Derived.IntWalk

namespace Go.Proofs.Yteioefgckigbcaa

open Go.RowKit

open Go.Great
theorem edges_bad {t : Tp3} {i : Nat} {x : Int} (hx : t.edges[i]? = some x) (h : x < 1 ∨ 1000000 < x) : edgesOk t = false := by
  cases hq : edgesOk t with
  | false => rfl
  | true =>
    unfold edgesOk at hq
    have h1 := List.all_eq_true.1 hq x (List.mem_of_getElem? hx)
    simp only [Bool.and_eq_true, decide_eq_true_eq] at h1
    omega
theorem edges_good {t : Tp3} (h : ∀ (j : Nat) (x : Int), t.edges[j]? = some x → 1 ≤ x ∧ x ≤ 1000000) : edgesOk t = true := by
  unfold edgesOk
  rw [List.all_eq_true]
  intro x hx
  obtain ⟨j, hj, rfl⟩ := List.getElem_of_mem hx
  have := h j _ (List.getElem?_eq_getElem hj)
  simp only [Bool.and_eq_true, decide_eq_true_eq]
  exact this
theorem over_len {t : Tp3} {path : List St3} {fr tz : Int} (h : lenE t path ≠ 0) : overE t path fr tz = ([], lenE t path) := if_neg h
theorem over_edges {t : Tp3} {path : List St3} {fr tz : Int} (h : lenE t path = 0) (h2 : edgesOk t = false) : overE t path fr tz = ([], 1) := by
  unfold overE
  rw [if_pos h, if_neg (by rw [h2]; rintro ⟨h3, _⟩; cases h3)]
theorem over_args {t : Tp3} {path : List St3} {fr tz : Int} (h : lenE t path = 0) (h2 : fr < 0 ∨ tz < fr ∨ sumT t path < tz) : overE t path fr tz = ([], 1) := by
  unfold overE
  rw [if_pos h, if_neg (fun h3 => h3.2 h2)]
theorem ov_at {t : Tp3} {fr tz at_ : Int} {path : List St3} {i : Nat} {x : St3} (hx : path[i]? = some x) : ovGo t fr tz (path.drop i) at_ = partN x (lenAt t x) (cutA fr at_) (cutB tz at_ (lenAt t x)) ++ ovGo t fr tz (path.drop (i + 1)) (at_ + lenAt t x) := by
  rw [drop_at15 hx, ovGo]

end Go.Proofs.Yteioefgckigbcaa
