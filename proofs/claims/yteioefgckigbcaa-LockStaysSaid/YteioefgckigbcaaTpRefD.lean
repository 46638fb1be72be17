/-
  linesideref13, by contract: route.
-/
import Derived.Test.YteioefgckigbcaaTpRefC

import Derived.BigQuiet

import Derived.IntWalk

namespace Go.Proofs.Yteioefgckigbcaa

open Go.RowKit

open Go.Great

theorem route_long {t : Tp3} {r : Rt3} (h : r.id < 1 ∨ r.path.length = 0 ∨ 8 < r.path.length) : routeE t r = 1 := by
  unfold routeE
  rw [if_pos h]
theorem route_edge {t : Tp3} {r : Rt3} {m : Nat} {s : St3} (hm : r.path[m]? = some s) (h : edgeB t s.edge = false) : routeE t r = 1 := by
  unfold routeE
  split
  · rfl
  · rw [if_neg]
    intro hc
    rw [Bool.and_eq_true, List.all_eq_true] at hc
    have := hc.1 s (List.mem_of_getElem? hm)
    rw [h] at this
    cases this
theorem twice_iff {path : List St3} : twiceB path = false ↔ ∀ (m k : Nat) (x y : St3), m < k → path[m]? = some x → path[k]? = some y → x.edge ≠ y.edge := by
  unfold twiceB
  rw [decide_eq_false_iff_not, Classical.not_not]
  unfold List.Nodup
  rw [List.pairwise_iff_getElem]
  constructor
  · intro h m k x y hmk hx hy he
    obtain ⟨hm, ex⟩ := List.getElem?_eq_some_iff.1 hx
    obtain ⟨hk, ey⟩ := List.getElem?_eq_some_iff.1 hy
    refine h m k (by simpa using hm) (by simpa using hk) hmk ?_
    rw [List.getElem_map, List.getElem_map, ex, ey, he]
  · intro h m k hm hk hmk he
    rw [List.getElem_map, List.getElem_map] at he
    exact h m k _ _ hmk (List.getElem?_eq_getElem (by simpa using hm)) (List.getElem?_eq_getElem (by simpa using hk)) he
theorem route_twice {t : Tp3} {r : Rt3} {m k : Nat} {x y : St3} (hmk : m < k) (hx : r.path[m]? = some x) (hy : r.path[k]? = some y) (he : x.edge = y.edge) : routeE t r = 1 := by
  unfold routeE
  split
  · rfl
  · rw [if_neg]
    intro hc
    rw [Bool.and_eq_true] at hc
    have h2 : twiceB r.path = false := by simpa using hc.2
    exact twice_iff.1 h2 m k x y hmk hx hy he
theorem route_rest {t : Tp3} {r : Rt3} (h1 : ¬ (r.id < 1 ∨ r.path.length = 0 ∨ 8 < r.path.length)) (h2 : ∀ (m : Nat) (s : St3), r.path[m]? = some s → edgeB t s.edge = true) (h3 : ∀ (m k : Nat) (x y : St3), m < k → r.path[m]? = some x → r.path[k]? = some y → x.edge ≠ y.edge) :
    routeE t r = if lenE t r.path = 0 then (if r.gap < 0 ∨ lenN t r.path - 1 < r.gap ∨ r.timer < 1 ∨ 1000 < r.timer then 1 else if (r.path.all (hasBal t)) = true then 0 else 4) else lenE t r.path := by
  have h4 : (r.path.all fun s => edgeB t s.edge) = true := by
    rw [List.all_eq_true]
    intro s hs
    obtain ⟨m, hm, rfl⟩ := List.getElem_of_mem hs
    exact h2 m _ (List.getElem?_eq_getElem hm)
  unfold routeE
  rw [if_neg h1, h4, twice_iff.2 h3, if_pos (by decide)]
theorem take_any13 {l : List Bl3} {f : Bl3 → Bool} {k : Nat} {b : Bl3} (hb : l[k]? = some b) : (l.take (k + 1)).any f = ((l.take k).any f || f b) := by
  rw [List.take_add_one, hb, List.any_append]
  simp

end Go.Proofs.Yteioefgckigbcaa
