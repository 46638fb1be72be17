/-
  The one row that stands in the order of places and, at one place, of how they stood: the stable order.
-/
import Derived.Test.YtidokfbjfdkfdaaOdoSort
import Derived.Test.YtidokfbjfdkfdaaSmStab2
namespace Go.Proofs.Ytidokfbjfdkfdaa
open Go.RowKit Fl Go.Sort
attribute [local irreducible] N E mval top U

def KE (p : Nat × Nat) : Int := key (p.1 % 18446744073709551616)
def TE (p : Nat × Nat) : Nat := p.2
def encE (p : Nat × Nat) : Value := .float .f64 (p.1 % 18446744073709551616)

theorem pos_at (x : Nat) (A B : List Nat) (hA : ∀ y ∈ A, lessB x y = false) (hB : ∀ y ∈ B, lessB x y = true) : ∀ k, k ≤ B.length → pos x (A ++ B) (A.length + k) = A.length := by
  intro k
  induction k with
  | zero =>
    intro _
    rw [Nat.add_zero]
    cases hl : A.length with
    | zero => rfl
    | succ n =>
      have h1 : n < A.length := by omega
      have e : (A ++ B).getD n 0 = A[n] := by
        rw [List.getD_eq_getElem?_getD, List.getElem?_append_left h1, List.getElem?_eq_getElem h1]; rfl
      rw [pos, e, if_neg (by rw [hA _ (List.getElem_mem h1)]; decide)]
  | succ k ih =>
    intro hk
    have h1 : k < B.length := by omega
    have e : (A ++ B).getD (A.length + k) 0 = B[k] := by
      rw [List.getD_eq_getElem?_getD, List.getElem?_append_right (by omega), Nat.add_sub_cancel_left, List.getElem?_eq_getElem h1]; rfl
    rw [← Nat.add_assoc, pos, e, if_pos (hB _ (List.getElem_mem h1))]
    exact ih (by omega)
theorem ins_at (x : Nat) (A B : List Nat) (hA : ∀ y ∈ A, lessB x y = false) (hB : ∀ y ∈ B, lessB x y = true) : ins x (A ++ B) = A ++ x :: B := by
  have h := pos_at x A B hA hB B.length (Nat.le_refl _)
  rw [← List.length_append] at h
  rw [ins, h, List.take_left, List.drop_left]
  simp
theorem zip_mem {l : List Nat} {p : Nat × Nat} (h : p ∈ l.zipIdx) : p.2 < l.length ∧ p.1 ∈ l := by
  obtain ⟨x, i⟩ := p
  have h1 := List.mem_zipIdx h
  refine ⟨by have := h1.2.1; omega, ?_⟩
  rw [h1.2.2]
  exact List.getElem_mem _
theorem sort_uniq : ∀ (N : Nat) (l : List Nat), l.length = N → (∀ z ∈ l, z < 18446744073709551616) → ∀ L : List (Nat × Nat), L.Perm l.zipIdx → L.Pairwise (Sm.R KE TE) → L.map Prod.fst = sortOf l := by
  intro N
  induction N with
  | zero =>
    intro l hN _ L hp _
    have e : l = [] := List.eq_nil_of_length_eq_zero hN
    subst e
    rw [show L = [] from List.Perm.eq_nil (by simpa using hp)]; rfl
  | succ N ih =>
    intro l hN hw L hp hs
    obtain ⟨l', x, rfl⟩ : ∃ l' x, l = l' ++ [x] := ⟨l.dropLast, l.getLast (by intro h; rw [h] at hN; cases hN), (List.dropLast_concat_getLast _).symm⟩
    have hN' : l'.length = N := by simpa using hN
    have ez : (l' ++ [x]).zipIdx = l'.zipIdx ++ [(x, l'.length)] := by rw [List.zipIdx_append]; simp
    rw [ez] at hp
    have hm : (x, l'.length) ∈ L := hp.mem_iff.2 (by simp)
    obtain ⟨L1, L2, rfl⟩ := List.append_of_mem hm
    have hp2 : (L1 ++ L2).Perm l'.zipIdx := by
      have h1 : ((x, l'.length) :: (L1 ++ L2)).Perm ((x, l'.length) :: l'.zipIdx) :=
        (List.perm_middle.symm.trans hp).trans (List.perm_append_singleton _ _)
      exact List.Perm.cons_inv h1
    have hpw := List.pairwise_append.1 hs
    have hpc := List.pairwise_cons.1 hpw.2.1
    have hs2 : (L1 ++ L2).Pairwise (Sm.R KE TE) := List.pairwise_append.2 ⟨hpw.1, hpc.2, fun a ha b hb => hpw.2.2 a ha b (List.mem_cons_of_mem _ hb)⟩
    have hIH := ih l' hN' (fun z hz => hw z (List.mem_append_left _ hz)) (L1 ++ L2) hp2 hs2
    have ht : ∀ p ∈ L1 ++ L2, p.2 < l'.length ∧ p.1 ∈ l' := fun p hpm => zip_mem (hp2.mem_iff.1 hpm)
    have hx : x < 18446744073709551616 := hw x (by simp)
    have hk : ∀ p ∈ L1 ++ L2, KE p = key p.1 := fun p hpm => by
      unfold KE; rw [Nat.mod_eq_of_lt (hw _ (List.mem_append_left _ (ht p hpm).2))]
    have hkx : KE (x, l'.length) = key x := by unfold KE; rw [Nat.mod_eq_of_lt hx]
    have e2 : sortOf (l' ++ [x]) = ins x (sortOf l') := by simp [sortOf, List.foldl_append]
    rw [e2, ← hIH, List.map_append, List.map_append, List.map_cons, ins_at]
    · intro y hy
      rw [List.mem_map] at hy
      obtain ⟨p, hp1, rfl⟩ := hy
      have h := hpw.2.2 p hp1 _ (List.mem_cons_self ..)
      unfold Sm.R at h
      rw [hk p (List.mem_append_left _ hp1), hkx] at h
      unfold lessB
      exact decide_eq_false (by omega)
    · intro y hy
      rw [List.mem_map] at hy
      obtain ⟨p, hp1, rfl⟩ := hy
      have h := hpc.1 p hp1
      have h2 := (ht p (List.mem_append_right _ hp1)).1
      unfold Sm.R TE at h
      rw [hk p (List.mem_append_right _ hp1), hkx] at h
      unfold lessB
      refine decide_eq_true ?_
      rcases h with h | ⟨h, h3⟩
      · exact h
      · simp only at h3; omega

theorem below_sw {enc : Nat × Nat → Value} {w W : World} {g off B : Nat} {d : Array (Nat × Nat)} (h : SW enc w g off d W) (hB : B ≤ g) (hB2 : B ≤ w.heap.size) : Below B w W := by
  obtain ⟨n, os, rfl⟩ := h
  refine ⟨rfl, rfl, rfl, ?_, ?_⟩
  · unfold sortWorld; rw [size_grow, size_putRow]; show w.heap.size ≤ w.heap.size + _; omega
  · intro k hk
    show ((putRow enc (Sort.ahead w n) g off d).heap ++ os)[k]? = _
    rw [Array.getElem?_append_left (by rw [size_putRow]; show k < w.heap.size; omega)]
    show (w.heap.modify g _)[k]? = _
    rw [Array.getElem?_modify, if_neg (by omega)]
theorem own_sw {w W : World} {base g n c : Nat} {l : List Nat} {d : Array (Nat × Nat)} (ho : OwF base w (some ⟨g, 0, none⟩) n c l) (h : SW encE w g 0 d W) (hd : d.size = n) :
    OwF base W (some ⟨g, 0, none⟩) n c (d.toList.map fun p => p.1 % 18446744073709551616) := by
  obtain ⟨m, os, rfl⟩ := h
  refine ⟨by simp [flts, hd], .inr ?_⟩
  rcases ho.2 with ⟨e1, _⟩ | ⟨g', cap, cur, e1, hb, hg, hnc, hcm, hcs, htake⟩
  · simp at e1
  · simp only [Value.slice.injEq, Option.some.injEq, Addr.mk.injEq, and_true, true_and] at e1
    obtain ⟨rfl, rfl⟩ := e1
    refine ⟨g, c, putCells encE 0 d cur, rfl, hb, ?_, hnc, hcm, by simp [putCells]; omega, ?_⟩
    · have hlt : g < w.heap.size := by
        rcases Nat.lt_or_ge g w.heap.size with h1 | h1
        · exact h1
        · rw [Array.getElem?_eq_none h1] at hg; cases hg
      show ((putRow encE (Sort.ahead w m) g 0 d).heap ++ os)[g]? = _
      rw [Array.getElem?_append_left (by rw [size_putRow]; exact hlt)]
      show (w.heap.modify g _)[g]? = _
      rw [Array.getElem?_modify, if_pos rfl, hg]
      rfl
    · apply List.ext_getElem?
      intro j
      by_cases hj : j < n
      · have hjc : j < cur.size := by omega
        have hjd : j < d.size := by omega
        rw [List.getElem?_take, if_pos (by omega), Array.getElem?_toList, putCells, Array.getElem?_mapIdx, Array.getElem?_eq_getElem hjc]
        simp only [Option.map_some, Nat.zero_le, Nat.zero_add, true_and, Nat.sub_zero, if_pos hjd]
        simp [flts, encE, Array.getElem?_eq_getElem hjd, getElem!_pos d j hjd]
      · rw [List.getElem?_take, if_neg (by omega), List.getElem?_eq_none (by simp [flts]; omega)]
end Go.Proofs.Ytidokfbjfdkfdaa
