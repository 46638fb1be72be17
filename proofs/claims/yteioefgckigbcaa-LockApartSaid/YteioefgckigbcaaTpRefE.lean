/-
  linesideref13, by contract: Check.
-/
import Derived.Test.YteioefgckigbcaaTpRefD

import Derived.BigQuiet

import Derived.IntWalk

namespace Go.Proofs.Yteioefgckigbcaa

open Go.RowKit

open Go.Great

theorem sl_low13 {w : World} {s : Nat} {A : Option Addr} {n c : Nat} {vs : List Value} (h : Sl w s A n c vs) {q : Nat} (hq : q ≤ n) : A ≠ none → Sl w s A q c (vs.take (q * s)) := by
  intro hA
  have hl : vs.length = n * s := h.1
  have hm : q * s ≤ n * s := Nat.mul_le_mul_right s hq
  refine ⟨by rw [List.length_take]; omega, fun e => absurd e hA, fun ad ha j u hu => ?_⟩
  have hj : j < q * s := by
    have := (List.getElem?_eq_some_iff.1 hu).1
    rw [List.length_take] at this
    omega
  rw [List.getElem?_take_of_lt hj] at hu
  exact h.2.2 ad ha j u hu
theorem flat_take13 {α : Type} {f : α → List Value} {k : Nat} (hf : ∀ x, (f x).length = k) (l : List α) (q : Nat) : (l.take q).flatMap f = (l.flatMap f).take (q * k) := by
  induction l generalizing q with
  | nil => simp
  | cons x r ih =>
    cases q with
    | zero => simp
    | succ m =>
      have e : (m + 1) * k = k + m * k := by rw [Nat.succ_mul, Nat.add_comm]
      rw [List.take_succ_cons, List.flatMap_cons, List.flatMap_cons, ih, e]
      conv => rhs; rw [← hf x]
      rw [List.take_length_add_append]
      rw [hf x]
theorem SlO.take {α : Type} {f : α → List Value} {k : Nat} {w : World} {A : Option Addr} {n c : Nat} {l : List α} (h : SlO f k w A n c l) (hf : ∀ x, (f x).length = k) (hA : A ≠ none) {q : Nat} (hq : q ≤ n) : SlO f k w A q c (l.take q) :=
  ⟨by rw [List.length_take, h.1]; omega, by rw [flat_take13 hf]; exact sl_low13 h.2 hq hA⟩
theorem jointE_at {t : Tp3} {i : Nat} {j : Jt3} (h : t.joints[i]? = some j) : jointE t i = if (endB t j.a && endB t j.b && !eqE j.a j.b) = true then (if joinB (t.joints.take i) j.a j.b = true then 5 else 0) else 1 := by
  unfold jointE
  rw [h]
theorem balE_at {t : Tp3} {i : Nat} {b : Bl3} (h : t.bals[i]? = some b) : balE t i = if (decide (0 ≤ b.id) && decide (b.id ≤ 16777214) && edgeB t b.edge && decide (0 ≤ b.at_) && decide (b.at_ ≤ t.edges.getD b.edge.toNat 0)) = true then (if ((t.bals.take i).any fun x => x.id == b.id) = true then 5 else 0) else 1 := by
  unfold balE
  rw [h]
theorem routeAt_at {t : Tp3} {i : Nat} {r : Rt3} (h : t.routes[i]? = some r) : routeAt t i = if routeE t r = 0 then (if ((t.routes.take i).any fun x => x.id == r.id) = true then 5 else 0) else routeE t r := by
  unfold routeAt
  rw [h]
theorem check_long {t : Tp3} (h : longB t = true) : checkE t = 2 := by
  unfold checkE
  rw [if_pos h]
theorem check_edge {t : Tp3} (h : longB t = false) {m : Nat} {e : Int} (hm : t.edges[m]? = some e) (he : e < 1 ∨ 1000000 < e) : checkE t = 1 := by
  unfold checkE
  rw [if_neg (by rw [h]; decide), if_neg]
  intro hc
  unfold edgesOk at hc
  rw [List.all_eq_true] at hc
  have := hc e (List.mem_of_getElem? hm)
  simp at this
  omega
theorem edges_ok13 {t : Tp3} (h : ∀ (m : Nat) (e : Int), t.edges[m]? = some e → 1 ≤ e ∧ e ≤ 1000000) : edgesOk t = true := by
  unfold edgesOk
  rw [List.all_eq_true]
  intro e he
  obtain ⟨m, hm, rfl⟩ := List.getElem_of_mem he
  have := h m _ (List.getElem?_eq_getElem hm)
  simp
  omega
theorem check_rest {t : Tp3} (h : longB t = false) (he : edgesOk t = true) : checkE t = (if firstE (jointE t) t.joints.length = 0 then
      (if firstE (balE t) t.bals.length = 0 then firstE (routeAt t) t.routes.length else firstE (balE t) t.bals.length)
     else firstE (jointE t) t.joints.length) := by
  unfold checkE
  rw [if_neg (by rw [h]; decide), if_pos he]
theorem any_no13 {α : Type} {f : α → Bool} {l : List α} {k : Nat} (h : ∀ (m : Nat) (y : α), m < k → l[m]? = some y → f y = false) : (l.take k).any f = false := by
  rw [List.any_eq_false]
  intro y hy
  obtain ⟨m, hm, rfl⟩ := List.getElem_of_mem hy
  rw [List.length_take] at hm
  rw [List.getElem_take, h m _ (by omega) (List.getElem?_eq_getElem (by omega))]
  decide
theorem any_yes13 {α : Type} {f : α → Bool} {l : List α} {k m : Nat} {y : α} (hm : m < k) (hy : l[m]? = some y) (hf : f y = true) : (l.take k).any f = true := by
  rw [List.any_eq_true]
  exact ⟨y, List.mem_of_getElem? (i := m) (by rw [List.getElem?_take_of_lt hm]; exact hy), hf⟩

end Go.Proofs.Yteioefgckigbcaa
