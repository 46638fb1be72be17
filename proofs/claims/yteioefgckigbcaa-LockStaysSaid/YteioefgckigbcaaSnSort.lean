/-
  span as landed: slices.SortFunc of bounds by span's compare: a permutation, ascending; nothing else is written.
-/
import Derived.Test.YteioefgckigbcaaSnSortLay

import Derived.Test.YteioefgckigbcaaSnA

namespace Go.Proofs.Yteioefgckigbcaa

open Go.RowKit

open Go.Great

open Go.Sort (putRowK HoldsK size_putRowK alloc_eq_grow grow_grow flatK get_flatK)

instance : Inhabited Bd4 := ⟨⟨0, 0, 0, 0⟩⟩
theorem lt_cmpBd (x y : Bd4) : ltOf cmpBd x y = befB x y := by
  obtain ⟨a, b, p, q⟩ := x
  obtain ⟨c, d, r, s⟩ := y
  rw [Bool.eq_iff_iff, befB_iff]
  unfold ltOf cmpBd cmpI15
  dsimp only
  rw [decide_eq_true_eq]
  constructor
  · intro h
    split at h <;> split at h <;> (try split at h) <;> (try split at h) <;> omega
  · intro h
    split <;> split <;> (try split) <;> (try split) <;> omega
theorem swo_cmpBd : Go.Sort.SWO (ltOf cmpBd) where
  irrefl x := by
    rw [lt_cmpBd, ← Bool.not_eq_true, befB_iff]
    omega
  trans x y z h1 h2 := by
    rw [lt_cmpBd, befB_iff] at *
    omega
  ntrans x y z h1 h2 := by
    rw [lt_cmpBd, ← Bool.not_eq_true, befB_iff] at *
    omega

theorem cmpLays15 (b off size : Nat) (w : World) : CmpLays Try.prog 49 #[] bdC 4 cmpBd b off size w := fun m os dk _ x y =>
  (oscmp_any x y (sortWorldK bdC 4 w b off m dk os)).mono fun _ _ h => h

theorem sorted_only15 (w : World) (b off n : Nat) (d : Array Bd4) (os : Array Obj) : w.grownBy (sortWorldK bdC 4 w b off n d os) (some b) := by
  have hs : (putRowK bdC 4 (Go.Sort.ahead w n) b off d).heap.size = w.heap.size := size_putRowK _ _ _ _ _ _
  refine ⟨rfl, rfl, rfl, ?_, fun i hi hne => ?_⟩
  · show w.heap.size ≤ ((putRowK bdC 4 (Go.Sort.ahead w n) b off d).heap ++ os).size
    rw [Array.size_append, hs]
    omega
  · show ((putRowK bdC 4 (Go.Sort.ahead w n) b off d).heap ++ os)[i]? = w.heap[i]?
    rw [Array.getElem?_append_left (by rw [hs]; exact hi)]
    show (w.heap.modify b _)[i]? = w.heap[i]?
    rw [Array.getElem?_modify, if_neg (fun e => hne (by rw [e]))]

theorem putCells_size15 (off : Nat) (d c : Array Value) : (Go.Sort.putCells id off d c).size = c.size := by
  simp [Go.Sort.putCells]
/-- The row's block behind the sort. -/
theorem sorted_has (w : World) (b n : Nat) (d : Array Bd4) (os : Array Obj) {t : TypeId} {cur : Array Value} (h : Has w b t cur) : ∃ cur', Has (sortWorldK bdC 4 w b 0 n d os) b t cur' ∧ cur'.size = cur.size := by
  have hb := h.lt
  refine ⟨Go.Sort.putCells id 0 (flatK bdC 4 d) cur, ?_, putCells_size15 _ _ _⟩
  unfold Has at h ⊢
  show ((putRowK bdC 4 (Go.Sort.ahead w n) b 0 d).heap ++ os)[b]? = _
  rw [Array.getElem?_append_left (by rw [size_putRowK]; exact hb)]
  show (w.heap.modify b (Go.Sort.onCells _))[b]? = _
  rw [Array.getElem?_modify, if_pos rfl, h]
  rfl
theorem flatK_eq15 (l : List Bd4) (j : Nat) (hj : j < l.length * 4) : (l.flatMap bdC)[j]? = some (flatK bdC 4 l.toArray)[j]! := by
  have h1 : j / 4 < l.length := by omega
  have h2 := flat_at (f := bdC) (k := 4) (fun _ => rfl) (List.getElem?_eq_getElem h1) (i := j % 4) (by omega)
  rw [show j / 4 * 4 + j % 4 = j by omega] at h2
  rw [h2, get_flatK _ _ _ _ (by simpa using hj)]
  have h3 : l.toArray[j / 4]! = l[j / 4] := by rw [getElem!_pos l.toArray (j / 4) (by simpa using h1)]; simp
  rw [h3]
  rcases (show j % 4 = 0 ∨ j % 4 = 1 ∨ j % 4 = 2 ∨ j % 4 = 3 by omega) with h | h | h | h <;> rw [h] <;> rfl
theorem holds_of_own15 {w : World} {base g n c : Nat} {l : List Bd4} (h : OwR bdC 4 102 base w (some ⟨g, 0, none⟩) n c l) : HoldsK bdC 4 w g 0 l.toArray := by
  intro j hj
  have hj' : j < l.length * 4 := by simpa using hj
  refine ⟨?_, ?_⟩
  · have := (Sl.of_own h.1).2.2 _ rfl j _ (flatK_eq15 l j hj')
    rw [show ((⟨g, 0, none⟩ : Addr).add j) = ⟨g, 0 + j, none⟩ by simp [Addr.add]; exact fun h => h.symm] at this
    exact this
  · obtain ⟨g', cur, e, _, hb, _⟩ := h.has
    cases e
    exact hb.thaw _

set_option maxRecDepth 100000 in
set_option maxHeartbeats 2000000 in
theorem ossort_any (l : List Bd4) (b base n c : Nat) (w : World) (ho : OwR bdC 4 102 base w (some ⟨b, 0, none⟩) n c l) (hn : n ≤ 1048576) :
    Calls Try.prog 48 #[.slice (some ⟨b, 0, none⟩) n c, .func (.func 49) #[] #[]] w fun e w' => e = .returned (.tuple #[]) ∧ ∃ l' : List Bd4, l'.Perm l ∧ l'.Pairwise (fun x y => befB y x = false) ∧ OwR bdC 4 102 base w' (some ⟨b, 0, none⟩) n c l' ∧ w.grownBy w' (some b) := by
  have eg : ∀ args w, (callFunc 49 args).run Try.prog w = .ok (.enter 49 args) w := enters_of Try.func49 (by kernel_rfl) rfl
  have hH := holds_of_own15 ho
  have hbl : b < w.heap.size := ho.lt rfl
  have hle : l.length = n := ho.2
  have hcon := AnyQ.slices_SortFunc sortBd15 4 Try.isAgg102 Try.sizeOf102 bdC (fun _ => rfl) (fun x v hv => by unfold bdC at hv; simp at hv; rcases hv with rfl | rfl | rfl | rfl <;> rfl) cmpBd swo_cmpBd 49 #[] b 0 c l.toArray w eg (cmpLays15 b 0 l.toArray.size w) hH hbl (by simp; omega)
  change Calls Try.prog 48 _ _ _ at hcon
  rw [List.size_toArray, hle] at hcon
  refine hcon.mono ?_
  rintro e w' ⟨rfl, d', m, os, ⟨h1, _, h3⟩, h4, rfl⟩
  have e1 : d'.toList.length = l.length := by simpa using h1
  have hg := sorted_only15 w b 0 m d' os
  refine ⟨rfl, d'.toList, ?_, ?_, ?_, hg⟩
  · have h5 : (List.take n d'.toList).Perm (List.take n l) := by simpa [hle] using h3
    rwa [List.take_of_length_le (by omega), List.take_of_length_le (by omega)] at h5
  · rw [List.pairwise_iff_getElem]
    intro i j hi hj hij
    have := h4 i j (Nat.zero_le _) hij (by have e1 : d'.size = l.length := by simpa using h1
                                           have e2 : j < d'.size := by simpa using hj
                                           omega)
    rw [lt_cmpBd] at this
    rw [getElem!_pos d' j (by simpa using hj), getElem!_pos d' i (by simpa using hi)] at this
    simpa using this
  · obtain ⟨g', cur, e, hbase, hb, hnc, hcm, hcs, _⟩ := ho.has
    cases e
    obtain ⟨cur', hc', hsz⟩ := sorted_has w b m d' os hb
    have hH2 : HoldsK bdC 4 (sortWorldK bdC 4 w b 0 m d' os) b 0 d'.toList.toArray := by
      rw [Array.toArray_toList]
      exact (show SWK bdC 4 w b 0 d' _ from ⟨m, os, rfl⟩).holds hbl hH h1
    have hfl : (d'.toList.flatMap bdC).length = n * 4 := by rw [flat_len (f := bdC) (k := 4) (fun _ => rfl), e1, hle]
    refine ⟨⟨hfl, .inr ⟨b, c, cur', rfl, hbase, hc', hnc, hcm, by rw [hsz, hcs], ?_⟩⟩, by rw [e1, hle]⟩
    refine List.ext_getElem? fun j => ?_
    by_cases hj : j < n * 4
    · have hj2 : j < d'.toList.length * 4 := by rw [e1, hle]; exact hj
      rw [List.getElem?_take_of_lt hj, flatK_eq15 _ j hj2]
      have := (hH2 j (by simpa using hj2)).1
      rw [hc'.cell, Nat.zero_add] at this
      rw [Array.getElem?_toList, this]
      rfl
    · rw [List.getElem?_eq_none (by simp; omega), List.getElem?_eq_none (by rw [hfl]; omega)]

set_option maxRecDepth 100000 in
set_option maxHeartbeats 2000000 in
theorem osins_none (p : Option Addr) (c : Nat) (fv : Value) (w : World) :
    Calls Try.prog 84 #[.slice p 0 c, .int .i64 0, .int .i64 0, fv] w fun e w' => e = .returned (.tuple #[]) ∧ w' = w := by
  go_enter Try.func84, Try.ntmps84
  go_wp2
  refine wp_loop_rounds 1 ?_
  rw [rounds_succ]
  go_wp2
  go_end0
  exact ⟨rfl, rfl⟩
set_option maxRecDepth 100000 in
set_option maxHeartbeats 2000000 in
theorem ospdq_none (p : Option Addr) (c : Nat) (lim : Int) (fv : Value) (w : World) :
    Calls Try.prog 68 #[.slice p 0 c, .int .i64 0, .int .i64 0, .int .i64 lim, fv] w fun e w' => e = .returned (.tuple #[]) ∧ w' = w := by
  have H := Lib.hid (fun W => osins_none p c fv W)
  go_enter Try.func68, Try.ntmps68
  go_wp2
  refine wp_loop_rounds 1 ?_
  rw [rounds_succ]
  go_wp2_with fail
  refine (H.out _).mono ?_
  rintro e w' ⟨rfl, rfl⟩
  go_wp2
  (try simp only [Exit.inBlock, Exit.then])
  refine bodyPost_ret (results_none rfl _ _ _) rfl ?_
  exact ⟨rfl, rfl⟩
set_option maxRecDepth 100000 in
set_option maxHeartbeats 2000000 in
theorem ossort_none (p : Option Addr) (c : Nat) (fv : Value) (w : World) :
    Calls Try.prog 48 #[.slice p 0 c, fv] w fun e w' => e = .returned (.tuple #[]) ∧ w' = w := by
  have HL : Hid (∀ W, Calls Try.prog 69 #[.int .u64 0] W fun e w' => e = .returned (.int .i64 (Go.Lib.bitLen 0 : Nat)) ∧ w' = W) := Lib.hid fun W => Any.bits_Len (SlLaysF0.n15.bits (P := Try.prog) (ρ := sortBd15_ren) { sortBd15 with }) 0 W (by omega) (by omega)
  have HP := Lib.hid (fun lim W => ospdq_none p c lim fv W)
  go_enter Try.func48, Try.ntmps48
  go_wp2_with fail
  refine (HL.out _).mono ?_
  rintro e w' ⟨rfl, rfl⟩
  go_wp2_with fail
  refine (HP.out _ _).mono ?_
  rintro e w' ⟨rfl, rfl⟩
  go_wp2
  go_end0
  exact ⟨rfl, rfl⟩
end Go.Proofs.Yteioefgckigbcaa
