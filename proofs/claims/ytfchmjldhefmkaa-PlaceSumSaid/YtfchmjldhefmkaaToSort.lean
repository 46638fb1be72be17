/-
  package topo as landed: slices.SortFunc of steps by topo's compare: a permutation, ascending; nothing else is written.
-/
import Derived.Test.YtfchmjldhefmkaaToSortLay

import Derived.Test.YtfchmjldhefmkaaToA

namespace Go.Proofs.Ytfchmjldhefmkaa

open Go.RowKit

open Go.Great

open Go.Sort (putRowK HoldsK size_putRowK alloc_eq_grow grow_grow)

instance : Inhabited St3 := ⟨⟨0, false⟩⟩
def befS (x y : St3) : Bool := decide (x.edge < y.edge) || ((x.edge == y.edge) && (!x.rev && y.rev))
theorem lt_cmpS (x y : St3) : ltOf cmpS x y = befS x y := by
  obtain ⟨a, b⟩ := x
  obtain ⟨c, d⟩ := y
  unfold ltOf cmpS ltS eqS befS
  dsimp only
  by_cases h1 : a < c
  · have h2 : (a == c) = false := by simp; omega
    rw [decide_eq_true h1, h2]
    simp
  · by_cases h2 : a = c
    · subst h2
      cases b <;> cases d <;> simp
    · have h3 : (a == c) = false := by simp [h2]
      rw [decide_eq_false h1, h3]
      simp
theorem bef_iff (x y : St3) : befS x y = true ↔ x.edge < y.edge ∨ (x.edge = y.edge ∧ x.rev = false ∧ y.rev = true) := by
  unfold befS
  simp
theorem bef_false (x y : St3) : befS x y = false ↔ ¬ (x.edge < y.edge ∨ (x.edge = y.edge ∧ x.rev = false ∧ y.rev = true)) := by
  rw [← bef_iff]
  simp
theorem swo_cmpS : Go.Sort.SWO (ltOf cmpS) where
  irrefl x := by rw [lt_cmpS, bef_false]; cases x.rev <;> simp
  trans x y z h1 h2 := by
    rw [lt_cmpS, bef_iff] at *
    obtain ⟨a, b⟩ := x
    obtain ⟨c, d⟩ := y
    obtain ⟨e, f⟩ := z
    dsimp only at *
    cases b <;> cases d <;> cases f <;> simp at * <;> omega
  ntrans x y z h1 h2 := by
    rw [lt_cmpS, bef_false] at *
    obtain ⟨a, b⟩ := x
    obtain ⟨c, d⟩ := y
    obtain ⟨e, f⟩ := z
    dsimp only at *
    cases b <;> cases d <;> cases f <;> simp at * <;> omega

theorem cmpLays13 (b off size : Nat) (w : World) : CmpLays Try.prog 47 #[] stC 2 cmpS b off size w := fun m os dk _ x y =>
  (otcmp_any x y (sortWorldK stC 2 w b off m dk os)).mono fun e w' ⟨he, hw⟩ => by
    subst hw
    exact ⟨he, 0, _, by rw [alloc_eq_grow, alloc_eq_grow, grow_grow]; rfl⟩

theorem sorted_only (w : World) (b off n : Nat) (d : Array St3) (os : Array Obj) : w.grownBy (sortWorldK stC 2 w b off n d os) (some b) := by
  have hs : (putRowK stC 2 (Go.Sort.ahead w n) b off d).heap.size = w.heap.size := size_putRowK _ _ _ _ _ _
  refine ⟨rfl, rfl, rfl, ?_, fun i hi hne => ?_⟩
  · show w.heap.size ≤ ((putRowK stC 2 (Go.Sort.ahead w n) b off d).heap ++ os).size
    rw [Array.size_append, hs]
    omega
  · show ((putRowK stC 2 (Go.Sort.ahead w n) b off d).heap ++ os)[i]? = w.heap[i]?
    rw [Array.getElem?_append_left (by rw [hs]; exact hi)]
    show (w.heap.modify b _)[i]? = w.heap[i]?
    rw [Array.getElem?_modify, if_neg (fun e => hne (by rw [e]))]

set_option maxRecDepth 100000 in
set_option maxHeartbeats 2000000 in
theorem otsort_any (l : List St3) (b off c : Nat) (w : World) (hH : HoldsK stC 2 w b off l.toArray) (hb : b < w.heap.size) (hn : l.length ≤ 1048576) :
    Calls Try.prog 65 #[.slice (some ⟨b, off, none⟩) l.length c, .func (.func 47) #[] #[]] w fun e w' => e = .returned (.tuple #[]) ∧ ∃ l' : List St3, l'.Perm l ∧ l'.Pairwise (fun x y => befS y x = false) ∧ HoldsK stC 2 w' b off l'.toArray ∧ w.grownBy w' (some b) := by
  have eg : ∀ args w, (callFunc 47 args).run Try.prog w = .ok (.enter 47 args) w := enters_of Try.func47 (by kernel_rfl) rfl
  have hcon := AnyQ.slices_SortFunc sortSt13 2 Try.isAgg45 Try.sizeOf45 stC (fun _ => rfl) (fun x v hv => by unfold stC at hv; simp at hv; rcases hv with rfl | rfl <;> rfl) cmpS swo_cmpS 47 #[] b off c l.toArray w eg (cmpLays13 b off l.toArray.size w) hH hb (by simp; omega)
  change Calls Try.prog 65 _ _ _ at hcon
  rw [List.size_toArray] at hcon
  refine hcon.mono ?_
  rintro e w' ⟨rfl, d', n, os, ⟨h1, _, h3⟩, h4, rfl⟩
  refine ⟨rfl, d'.toList, ?_, ?_, ?_, sorted_only _ _ _ _ _ _⟩
  · have e1 : d'.toList.length = l.length := by simpa using h1
    have h5 : (List.take l.length d'.toList).Perm l := by simpa using h3
    rwa [List.take_of_length_le (by omega)] at h5
  · rw [List.pairwise_iff_getElem]
    intro i j hi hj hij
    have := h4 i j (Nat.zero_le _) hij (by have e1 : d'.size = l.length := by simpa using h1
                                           have e2 : j < d'.size := by simpa using hj
                                           omega)
    rw [lt_cmpS] at this
    rw [getElem!_pos d' j (by simpa using hj), getElem!_pos d' i (by simpa using hi)] at this
    simpa using this
  · rw [Array.toArray_toList]
    exact (show SWK stC 2 w b off d' _ from ⟨n, os, rfl⟩).holds hb hH h1

set_option maxRecDepth 100000 in
set_option maxHeartbeats 2000000 in
theorem otins_none (p : Option Addr) (c : Nat) (fv : Value) (w : World) :
    Calls Try.prog 90 #[.slice p 0 c, .int .i64 0, .int .i64 0, fv] w fun e w' => e = .returned (.tuple #[]) ∧ w' = w := by
  go_enter Try.func90, Try.ntmps90
  go_wp2
  refine wp_loop_rounds 1 ?_
  rw [rounds_succ]
  go_wp2
  go_end0
  exact ⟨rfl, rfl⟩
set_option maxRecDepth 100000 in
set_option maxHeartbeats 2000000 in
theorem otpdq_none (p : Option Addr) (c : Nat) (lim : Int) (fv : Value) (w : World) :
    Calls Try.prog 81 #[.slice p 0 c, .int .i64 0, .int .i64 0, .int .i64 lim, fv] w fun e w' => e = .returned (.tuple #[]) ∧ w' = w := by
  have H := Lib.hid (fun W => otins_none p c fv W)
  go_enter Try.func81, Try.ntmps81
  go_wp2
  refine wp_loop_rounds 1 ?_
  rw [rounds_succ]
  go_wp2_with fail
  refine (H.out _).mono ?_
  rintro e w' ⟨rfl, rfl⟩
  go_wp2
  (try simp only [Exit.inBlock, Exit.then])
  refine bodyPost_ret (results_none rfl _ _ _) rfl ?_
  exact ⟨rfl, rfl⟩
set_option maxRecDepth 100000 in
set_option maxHeartbeats 2000000 in
theorem otsort_none (p : Option Addr) (c : Nat) (fv : Value) (w : World) :
    Calls Try.prog 65 #[.slice p 0 c, fv] w fun e w' => e = .returned (.tuple #[]) ∧ w' = w := by
  have HL : Hid (∀ W, Calls Try.prog 82 #[.int .u64 0] W fun e w' => e = .returned (.int .i64 (Go.Lib.bitLen 0 : Nat)) ∧ w' = W) := Lib.hid fun W => Any.bits_Len (SlLaysF0.n15.bits (P := Try.prog) (ρ := sortSt13_ren) { sortSt13 with }) 0 W (by omega) (by omega)
  have HP := Lib.hid (fun lim W => otpdq_none p c lim fv W)
  go_enter Try.func65, Try.ntmps65
  go_wp2_with fail
  refine (HL.out _).mono ?_
  rintro e w' ⟨rfl, rfl⟩
  go_wp2_with fail
  refine (HP.out _ _).mono ?_
  rintro e w' ⟨rfl, rfl⟩
  go_wp2
  go_end0
  exact ⟨rfl, rfl⟩
end Go.Proofs.Ytfchmjldhefmkaa
