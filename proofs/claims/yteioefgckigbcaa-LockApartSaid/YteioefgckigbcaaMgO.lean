/-
  LcOA, LcOB, LcOwn: merged.
-/
import Derived.Test.YteioefgckigbcaaLcEq
import Derived.Test.YteioefgckigbcaaToB
import Derived.Test.YteioefgckigbcaaTpRefC
import Derived.BigQuiet
import Derived.IntWalk
import Derived.Test.YteioefgckigbcaaSnOwn
import Derived.Test.YteioefgckigbcaaToRtF
import Derived.Test.YteioefgckigbcaaMgT

/-
  the landed lock: its questions; slices.Clone, IndexFunc, ContainsFunc, DeleteFunc of locks; without, isLocked, Of, New.
-/
namespace Go.Proofs.Yteioefgckigbcaa

open Go.RowKit

open Go.Great

def splL (X : List Value) (o : Nat) (cs : List Value) : List Value := X.take o ++ cs ++ X.drop (o + cs.length)
theorem splL_len (X : List Value) (o : Nat) (cs : List Value) (h : o + cs.length ≤ X.length) : (splL X o cs).length = X.length := by
  unfold splL
  simp; omega
theorem splL_take (X : List Value) (o : Nat) (cs : List Value) (h : o ≤ X.length) : (splL X o cs).take o = X.take o := by
  unfold splL
  rw [List.append_assoc, List.take_append_of_le_length (by simp; omega), List.take_take, Nat.min_self]
theorem run_clear_rowL {P : Program} (w : World) (t e ty : TypeId) (z : Value) (ht : P.underlying t = some (.slice e)) (hv : ∀ w, (zeroValue e).run P w = .ok z w) (h1 : ∀ v ∈ z.cells.toList, v.oneCell' = true) (g o n c : Nat) (cur : Array Value)
    (hg : Has w g e cur) (hfit : o + n * z.cells.size ≤ cur.size) (h0 : 0 < n) :
    (Builtin.clear_ #[t] ty #[.slice (some ⟨g, o, none⟩) n c]).run P w = .ok (.tuple #[]) (w.setRow g (splL cur.toList o (Builtin.zeroCells z.cells n).toList).toArray) := by
  have hst := run_storeCells_at P g o e (Builtin.zeroCells z.cells n).toList 0 cur w hg (by simpa [Builtin.zeroCells] using hfit) (fun v hv' => by
    obtain ⟨i, hi, rfl⟩ := List.getElem_of_mem hv'
    simp [Builtin.zeroCells] at hi ⊢
    exact h1 _ (by
      have hp : 0 < z.cells.size := by
        rcases Nat.eq_zero_or_pos z.cells.size with h | h
        · rw [h] at hi; simp at hi
        · exact h
      rw [getElem!_pos z.cells _ (Nat.mod_lt _ hp)]
      simp))
  obtain ⟨m, rfl⟩ : ∃ m, n = m + 1 := ⟨n - 1, by omega⟩
  simp only [Nat.add_zero] at hst
  simp [Builtin.clear_, run_underlying ht, hv, hst, splL]
theorem flat_parts16 {l : List Lc3} {i : Nat} (h : i ≤ l.length) : (l.take i).flatMap lcC = (l.flatMap lcC).take (i * 3) ∧ (l.drop i).flatMap lcC = (l.flatMap lcC).drop (i * 3) := by
  have h1 : l.flatMap lcC = (l.take i).flatMap lcC ++ (l.drop i).flatMap lcC := by rw [← List.flatMap_append, List.take_append_drop]
  have h2 : ((l.take i).flatMap lcC).length = i * 3 := by rw [flat_len (f := lcC) (k := 3) (fun _ => rfl), List.length_take, Nat.min_eq_left h]
  rw [h1]
  exact ⟨(List.take_left' h2).symm, (List.drop_left' h2).symm⟩
/-- A row of locks known by its block. -/
theorem owl_has16 {base g n c : Nat} {w : World} {cur : Array Value} {l : List Lc3} (hb : base ≤ g) (hg : Has w g 50 cur) (hnc : n ≤ c) (hcm : c ≤ maxLen) (hcs : cur.size = c * 3) (hl : l.length = n) (ht : cur.toList.take (n * 3) = l.flatMap lcC) : OwR lcC 3 50 base w (some ⟨g, 0, none⟩) n c l := by
  refine ⟨⟨?_, .inr ⟨g, c, cur, rfl, hb, hg, hnc, hcm, hcs, ht⟩⟩, hl⟩
  rw [flat_len (f := lcC) (k := 3) (fun _ => rfl), hl]
/-- A shorter part of such a row. -/
theorem owl_take16 {base n c i : Nat} {w : World} {A : Option Addr} {l : List Lc3} (h : OwR lcC 3 50 base w A n c l) (hi : i ≤ n) : OwR lcC 3 50 base w A i c (l.take i) := by
  cases A with
  | none =>
    obtain ⟨e, _⟩ := h.sl.2.2.1 rfl
    subst e
    obtain rfl : i = 0 := by omega
    rcases h.1.2 with ⟨h1, _⟩ | ⟨g, cap, cur, h1, _⟩
    · injection h1 with _ _ h1
      subst h1
      exact OwR.nil _ _ _ _ _
    · cases h1
  | some ad =>
    obtain ⟨g, cur, rfl, hb, hg, hnc, hcm, hcs, ht⟩ := h.has
    refine owl_has16 hb hg (by omega) hcm hcs (by rw [List.length_take, h.2]; omega) ?_
    rw [(flat_parts16 (by rw [h.2]; exact hi)).1, ← ht, List.take_take, Nat.min_eq_left (by omega)]
/-! What DeleteFunc has made of a list when it has come to j and kept i. -/
structure DelP16 (p : Lc3 → Bool) (l L : List Lc3) (i j : Nat) : Prop where
  len : L.length = l.length
  le : i < j
  head : L.take i = (l.take j).filter fun k => !p k
  rest : L.drop j = l.drop j
theorem del_start16 {p : Lc3 → Bool} {l : List Lc3} {i : Nat} {x : Lc3} (hx : l[i]? = some x) (hp : p x = true) (hno : ∀ (k : Nat) (y : Lc3), k < i → l[k]? = some y → p y = false) : DelP16 p l l i (i + 1) := by
  refine ⟨rfl, Nat.lt_succ_self _, ?_, rfl⟩
  rw [List.take_add_one, hx, List.filter_append]
  have h1 : (l.take i).filter (fun k => !p k) = l.take i := by
    rw [List.filter_eq_self]
    intro y hy
    obtain ⟨k, hk, rfl⟩ := List.getElem_of_mem hy
    rw [List.length_take] at hk
    rw [List.getElem_take, hno k _ (by omega) (List.getElem?_eq_getElem (by omega))]
    rfl
  rw [h1]
  show _ = _ ++ List.filter _ [x]
  rw [List.filter_cons, hp]
  simp
theorem del_at16 {p : Lc3 → Bool} {l L : List Lc3} {i j : Nat} (h : DelP16 p l L i j) {x : Lc3} (hx : l[j]? = some x) : L[j]? = some x := by
  have h1 : (L.drop j)[0]? = (l.drop j)[0]? := by rw [h.rest]
  rw [List.getElem?_drop, List.getElem?_drop] at h1
  rw [← hx]
  simpa using h1
theorem del_drop16 {p : Lc3 → Bool} {l L : List Lc3} {i j : Nat} (h : DelP16 p l L i j) {x : Lc3} (hx : l[j]? = some x) (hp : p x = true) : DelP16 p l L i (j + 1) := by
  refine ⟨h.len, by have := h.le; omega, ?_, ?_⟩
  · rw [h.head, List.take_add_one, hx, List.filter_append]
    show _ = _ ++ List.filter _ [x]
    rw [List.filter_cons, hp]
    simp
  · have h1 := congrArg (List.drop 1) h.rest
    rw [List.drop_drop, List.drop_drop] at h1
    exact h1
theorem del_keep16 {p : Lc3 → Bool} {l L : List Lc3} {i j : Nat} (h : DelP16 p l L i j) {x : Lc3} (hx : l[j]? = some x) (hp : p x = false) : DelP16 p l (L.set i x) (i + 1) (j + 1) := by
  have hj := (List.getElem?_eq_some_iff.1 hx).1
  have hi := h.le
  refine ⟨by rw [List.length_set, h.len], by omega, ?_, ?_⟩
  · rw [List.take_add_one, List.take_set_of_le (Nat.le_refl _), h.head, List.take_add_one, hx, List.filter_append]
    congr 1
    rw [List.getElem?_set_self (by rw [h.len]; omega)]
    show _ = List.filter _ [x]
    rw [List.filter_cons, hp]
    rfl
  · rw [List.drop_set_of_lt (by omega)]
    have h1 := congrArg (List.drop 1) h.rest
    rw [List.drop_drop, List.drop_drop] at h1
    exact h1
theorem del_end16 {p : Lc3 → Bool} {l L : List Lc3} {i : Nat} (h : DelP16 p l L i l.length) : L.take i = l.filter fun k => !p k := by
  rw [h.head, List.take_of_length_le (Nat.le_refl _)]
theorem flat_set16 {l : List Lc3} {i : Nat} {x : Lc3} (hi : i < l.length) : (l.set i x).flatMap lcC = splL (l.flatMap lcC) (i * 3) (lcC x) := by
  unfold splL
  have h1 := (flat_parts16 (l := l) (i := i) (by omega)).1
  have h3 := (flat_parts16 (l := l) (i := i + 1) (by omega)).2
  rw [show (i + 1) * 3 = i * 3 + 3 by omega] at h3
  rw [List.set_eq_take_append_cons_drop, if_pos hi, List.flatMap_append, List.flatMap_cons, h1, h3]
  simp [lcC]
theorem spl316 {X : List Value} {o : Nat} {a b c : Value} (h : o + 3 ≤ X.length) : ((X.set o a).set (o + 1) b).set (o + 2) c = splL X o [a, b, c] := by
  apply List.ext_getElem?
  intro k
  unfold splL
  by_cases h1 : k < o
  · rw [List.getElem?_set_ne (by omega), List.getElem?_set_ne (by omega), List.getElem?_set_ne (by omega), List.getElem?_append_left (by simp; omega), List.getElem?_append_left (by simp; omega), List.getElem?_take, if_pos h1]
  · by_cases h2 : k < o + 3
    · rw [List.getElem?_append_left (by simp; omega), List.getElem?_append_right (by simp; omega)]
      rw [List.length_take, Nat.min_eq_left (by omega)]
      rcases (by omega : k = o ∨ k = o + 1 ∨ k = o + 2) with rfl | rfl | rfl
      · rw [List.getElem?_set_ne (by omega), List.getElem?_set_ne (by omega), List.getElem?_set_self (by omega)]
        simp
      · rw [List.getElem?_set_ne (by omega), List.getElem?_set_self (by simp; omega), show o + 1 - o = 1 by omega]
        rfl
      · rw [List.getElem?_set_self (by simp; omega), show o + 2 - o = 2 by omega]
        rfl
    · rw [List.getElem?_set_ne (by omega), List.getElem?_set_ne (by omega), List.getElem?_set_ne (by omega), List.getElem?_append_right (by simp; omega)]
      rw [List.length_append, List.length_take, Nat.min_eq_left (by omega), List.getElem?_drop]
      congr 1
      simp
      omega

set_option maxRecDepth 100000 in
set_option maxHeartbeats 8000000 in
theorem olcf_any (x : Lc3) (d : Int) (g : Nat) (w : World) (hc : w.cell? ⟨g, 0, none⟩ = some (.int .i64 d)) :
    Calls Try.prog 26 #[.agg (lcA x), .pointer (some ⟨g, 0, none⟩)] w fun e w' => e = .returned (.bool (x.no == d)) ∧ Below w.heap.size w w' := by
  obtain ⟨wa, hwa⟩ : ∃ wa, w.alloc (.cells (lcA x) 50) = wa := ⟨_, rfl⟩
  have hbwa : Below w.heap.size w wa := by rw [← hwa]; exact (Below.refl _ _).alloc (Nat.le_refl _) _
  have h0 : Has wa (w.heap.size) 50 (lcA x) := by rw [← hwa]; exact (Has.made _ _ _)
  have HWA := Lib.hid hwa; have HBWA := Lib.hid hbwa
  have c0 : wa.cell? ⟨w.heap.size, 2, none⟩ = some (.int .i64 x.no) := h0.cell 2
  have e0 : wa.cell? ⟨g, 0, none⟩ = some (.int .i64 d) := (hbwa.cell (cell_block hc)).trans hc
  clear hwa hbwa h0 hc
  obtain ⟨q, hq⟩ : ∃ q, (x.no == d) = q := ⟨_, rfl⟩
  rw [hq]
  unfold lcA at *
  go_enter Try.func26, Try.ntmps26
  go_upto_region 1 with fail
  rw [HWA.out]
  clear HWA
  go_wp2
  go_ret
  exact ⟨by first | rfl | (rw [hq]; done) | simp_all, HBWA.out⟩

set_option maxRecDepth 100000 in
set_option maxHeartbeats 8000000 in
theorem olco_any (x : Lc3) (d : Int) (g : Nat) (w : World) (hc : w.cell? ⟨g, 0, none⟩ = some (.int .i64 d)) :
    Calls Try.prog 39 #[.agg (lcA x), .pointer (some ⟨g, 0, none⟩)] w fun e w' => e = .returned (.bool (!(x.train == d))) ∧ Below w.heap.size w w' := by
  obtain ⟨wa, hwa⟩ : ∃ wa, w.alloc (.cells (lcA x) 50) = wa := ⟨_, rfl⟩
  have hbwa : Below w.heap.size w wa := by rw [← hwa]; exact (Below.refl _ _).alloc (Nat.le_refl _) _
  have h0 : Has wa (w.heap.size) 50 (lcA x) := by rw [← hwa]; exact (Has.made _ _ _)
  have HWA := Lib.hid hwa; have HBWA := Lib.hid hbwa
  have c0 : wa.cell? ⟨w.heap.size, 1, none⟩ = some (.int .i64 x.train) := h0.cell 1
  have e0 : wa.cell? ⟨g, 0, none⟩ = some (.int .i64 d) := (hbwa.cell (cell_block hc)).trans hc
  clear hwa hbwa h0 hc
  obtain ⟨q, hq⟩ : ∃ q, (x.train == d) = q := ⟨_, rfl⟩
  have z1 : (x.train != d) = !q := by rw [← hq]; rfl
  rw [hq]
  unfold lcA at *
  go_enter Try.func39, Try.ntmps39
  go_upto_region 1 with fail
  rw [HWA.out]
  clear HWA
  go_wp2
  go_ret
  exact ⟨by first | rfl | (rw [hq]; done) | simp_all, HBWA.out⟩

set_option maxRecDepth 100000 in
set_option maxHeartbeats 8000000 in
theorem olci_any (x : Lc3) (d : Int) (g : Nat) (w : World) (hc : w.cell? ⟨g, 0, none⟩ = some (.int .i64 d)) :
    Calls Try.prog 41 #[.agg (lcA x), .pointer (some ⟨g, 0, none⟩)] w fun e w' => e = .returned (.bool (x.route == d)) ∧ Below w.heap.size w w' := by
  obtain ⟨wa, hwa⟩ : ∃ wa, w.alloc (.cells (lcA x) 50) = wa := ⟨_, rfl⟩
  have hbwa : Below w.heap.size w wa := by rw [← hwa]; exact (Below.refl _ _).alloc (Nat.le_refl _) _
  have h0 : Has wa (w.heap.size) 50 (lcA x) := by rw [← hwa]; exact (Has.made _ _ _)
  have HWA := Lib.hid hwa; have HBWA := Lib.hid hbwa
  have c0 : wa.cell? ⟨w.heap.size, 0, none⟩ = some (.int .i64 x.route) := h0.cell 0
  have e0 : wa.cell? ⟨g, 0, none⟩ = some (.int .i64 d) := (hbwa.cell (cell_block hc)).trans hc
  clear hwa hbwa h0 hc
  obtain ⟨q, hq⟩ : ∃ q, (x.route == d) = q := ⟨_, rfl⟩
  rw [hq]
  unfold lcA at *
  go_enter Try.func41, Try.ntmps41
  go_upto_region 1 with fail
  rw [HWA.out]
  clear HWA
  go_wp2
  go_ret
  exact ⟨by first | rfl | (rw [hq]; done) | simp_all, HBWA.out⟩

set_option maxRecDepth 100000 in
set_option maxHeartbeats 8000000 in
theorem oclonel_any (A : Option Addr) (n c : Nat) (l : List Lc3) (w : World) (hs : SlO lcC 3 w A n c l) (hn : n ≤ 1000) :
    Calls Try.prog 24 #[.slice A n c] w fun e w' => ∃ A' c', e = .returned (.slice A' n c') ∧ OwR lcC 3 50 w.heap.size w' A' n c' l ∧ Below w.heap.size w w' := by
  obtain ⟨HLN, hs⟩ := hs
  have H1 : Hid (∀ u ∈ l.flatMap lcC, u.oneCell' = true) := Lib.hid fun u hu => by
    obtain ⟨x, _, h⟩ := List.mem_flatMap.1 hu
    exact one_lc16 x u h
  have HLN := Lib.hid HLN
  obtain ⟨vs, hvs⟩ : ∃ vs, l.flatMap lcC = vs := ⟨_, rfl⟩
  have HVS := Lib.hid hvs
  rw [hvs] at hs H1
  clear hvs
  have HFIN : Hid (∀ A' c' W, W.ownsRow w.heap.size 50 3 (.slice A' n c') n vs → OwR lcC 3 50 w.heap.size W A' n c' l) := Lib.hid fun A' c' W h => ⟨by rw [HVS.out]; exact h, HLN.out⟩
  clear HVS HLN
  cases hA : A with
  | none =>
    subst hA
    obtain ⟨rfl, rfl⟩ := hs.2.1 rfl
    have e0 : vs = [] := List.eq_nil_of_length_eq_zero (by simpa using hs.1)
    subst e0
    have HO0 : Hid (w.ownsRow w.heap.size 50 3 (.slice none 0 0) 0 []) := Lib.hid (World.ownsRow_nil w w.heap.size 50 3)
    have q1 := fun w : World => Lib.run_eql_slice_nil (P := Try.prog) w 32 50 none 0 0 0 0 Try.underlying32
    simp only [Option.isNone] at q1
    clear hs
    go_enter Try.func24, Try.ntmps24
    go_wp2
    go_ret
    exact ⟨none, 0, rfl, HFIN.out _ _ _ HO0.out, Below.refl _ _⟩
  | some ad =>
    subst hA
    have HSL := Lib.hid (hs.beside (.cells #[] 50))
    have HO := Lib.hid (World.ownsRow_lit (base := w.heap.size) (e := 50) (size := 3) w #[] 0 (Nat.le_refl _) (by unfold maxLen; omega) rfl)
    have HB : Hid (0 + n ≤ maxLen ∧ (0 + n) * 24 ≤ 140737488355328 ∧ w.heap.size ≤ (w.alloc (.cells #[] 50)).heap.size) := Lib.hid ⟨by unfold maxLen; omega, by omega, by simp⟩
    have HBL : Hid (Below w.heap.size w (w.alloc (.cells #[] 50))) := Lib.hid ((Below.refl _ _).alloc (Nat.le_refl _) _)
    have q1 := fun w : World => Lib.run_eql_slice_nil (P := Try.prog) w 32 50 (some ad) n c 0 0 Try.underlying32
    simp only [Option.isNone] at q1
    clear hs
    go_enter Try.func24, Try.ntmps24
    go_wp2_with (with_reducible refine wpList_pour (o := ⟨some 7, _, _, _, _, _⟩) rfl (.tmp 5) (.tmp 6) 32 rfl w.heap.size 50 (.agg #[.int .i64 0, .int .i64 0, .int .i64 0]) 3 24 Try.underlying32 info_lock16 ?hz (by decide) (some ⟨w.heap.size, 0, none⟩) 0 0 [] ?hs HO (some ad) n c vs ?hx HSL H1 HB ?next)
    all_goals try rfl
    case next =>
      intro A4 c4 w4 ho4 hg4
      have HO4 : Hid (w4.ownsRow w.heap.size 50 3 (.slice A4 n c4) n vs) := Lib.hid (by simpa using ho4.out)
      clear ho4
      go_wp2
      go_ret
      exact ⟨A4, c4, rfl, HFIN.out _ _ _ HO4.out, below_own HBL.out HB.out.2.2 HO.out (Nat.le_refl _) rfl hg4.out⟩

set_option maxRecDepth 100000 in
set_option maxHeartbeats 8000000 in
theorem oix_lf (p : Lc3 → Bool) (l : List Lc3) (A : Option Addr) (n c : Nat) (g : Nat) (w : World) (hs : SlO lcC 3 w A n c l) (hbig : n ≤ 1048576)
    (HE : Hid (∀ (x : Lc3) W, Below w.heap.size w W → Calls Try.prog 26 #[.agg (lcA x), .pointer (some ⟨g, 0, none⟩)] W fun e w' => e = .returned (.bool (p x)) ∧ Below W.heap.size W w')) :
    Calls Try.prog 61 #[.slice A n c, .func (.func 26) #[] #[.pointer (some ⟨g, 0, none⟩)]] w fun e w' => e = .returned (.int .i64 (idxL p l)) ∧ Below w.heap.size w w' := by
  try unfold lcA at HE
  have HN : Hid (l.length = n) := Lib.hid hs.len13
  have HW := Lib.hid hs
  clear hs
  have x0 : (0 : Int) ≤ n := by omega
  obtain ⟨R, hR⟩ : ∃ R, idxL p l = R := ⟨_, rfl⟩
  have HR := Lib.hid hR
  rw [hR]
  clear hR
  go_enter Try.func61, Try.ntmps61
  go_wp2
  go_loopg [8] n (fun kk v wl => ∃ j : Nat, j ≤ n ∧ n - j ≤ kk ∧ v = .int .i64 j ∧ Hid (∀ i x, i < j → l[i]? = some x → p x = false) ∧ Hid (Below w.heap.size w wl))
  case atStart => exact ⟨0, by omega, by omega, rfl, Lib.hid fun i x h => absurd h (by omega), Lib.hid (Below.refl _ _)⟩
  case round =>
    obtain ⟨j, hj, hjk, rfl, HNO, HBL⟩ := hrel
    by_cases hlt : j < n
    · obtain ⟨x, hx⟩ : ∃ x, l[j]? = some x := ⟨_, List.getElem?_eq_getElem (by rw [HN.out]; omega)⟩
      obtain ⟨bk, off, rfl, d0, d1, d2⟩ := (HW.out.under HBL.out).lock hx
      have HX := Lib.hid hx
      have y0 : (0 : Int) ≤ j := by omega
      have y1 : (j : Int) < n := by omega
      have HC := Lib.hid (HE.out x wr HBL.out)
      clear hx
      generalize hb : p x = b at *
      have HBE := Lib.hid hb
      clear hb
      cases b with
      | true =>
        have HF : Hid (R = j) := Lib.hid (by rw [← HR.out]; exact idx_hit HX.out HBE.out HNO.out)
        go_upto_region 4 with fail
        go_wp2_with fail
        refine HC.out.mono ?_
        rintro e w1 ⟨rfl, hb1⟩
        have HB1 := Lib.hid (HBL.out.trans (hb1.mono HBL.out.size))
        clear hb1 d0 d1 d2 HBE HNO
        go_wp2
        go_ret
        exact ⟨by rw [HF.out]; rfl, HB1.out⟩
      | false =>
        go_upto_region 4 with fail
        go_wp2_with fail
        refine HC.out.mono ?_
        rintro e w1 ⟨rfl, hb1⟩
        have HB1 := Lib.hid (HBL.out.trans (hb1.mono HBL.out.size))
        have HN2 : Hid (∀ i y, i < j + 1 → l[i]? = some y → p y = false) := Lib.hid fun i y hi hy => by
          by_cases h : i = j
          · subst h; rw [HX.out] at hy; cases hy; exact HBE.out
          · exact HNO.out i y (by omega) hy
        clear hb1 d0 d1 d2 HBE HNO
        go_wp2
        go_roundg (gk - 1)
        case measure => omega
        case rel => exact ⟨j + 1, by omega, by omega, by go_num, HN2, HB1⟩
    · have y1 : ¬ (j : Int) < n := by omega
      have HF : Hid (R = -1) := Lib.hid (by rw [← HR.out]; exact idx_miss fun i y hi hy => HNO.out i y (by have := HN.out; omega) hy)
      go_wp2
      go_ret
      exact ⟨by rw [HF.out]; rfl, HBL.out⟩

set_option maxRecDepth 100000 in
set_option maxHeartbeats 8000000 in
theorem oix_lo (p : Lc3 → Bool) (l : List Lc3) (A : Option Addr) (n c : Nat) (g : Nat) (w : World) (hs : SlO lcC 3 w A n c l) (hbig : n ≤ 1048576)
    (HE : Hid (∀ (x : Lc3) W, Below w.heap.size w W → Calls Try.prog 39 #[.agg (lcA x), .pointer (some ⟨g, 0, none⟩)] W fun e w' => e = .returned (.bool (p x)) ∧ Below W.heap.size W w')) :
    Calls Try.prog 61 #[.slice A n c, .func (.func 39) #[] #[.pointer (some ⟨g, 0, none⟩)]] w fun e w' => e = .returned (.int .i64 (idxL p l)) ∧ Below w.heap.size w w' := by
  try unfold lcA at HE
  have HN : Hid (l.length = n) := Lib.hid hs.len13
  have HW := Lib.hid hs
  clear hs
  have x0 : (0 : Int) ≤ n := by omega
  obtain ⟨R, hR⟩ : ∃ R, idxL p l = R := ⟨_, rfl⟩
  have HR := Lib.hid hR
  rw [hR]
  clear hR
  go_enter Try.func61, Try.ntmps61
  go_wp2
  go_loopg [8] n (fun kk v wl => ∃ j : Nat, j ≤ n ∧ n - j ≤ kk ∧ v = .int .i64 j ∧ Hid (∀ i x, i < j → l[i]? = some x → p x = false) ∧ Hid (Below w.heap.size w wl))
  case atStart => exact ⟨0, by omega, by omega, rfl, Lib.hid fun i x h => absurd h (by omega), Lib.hid (Below.refl _ _)⟩
  case round =>
    obtain ⟨j, hj, hjk, rfl, HNO, HBL⟩ := hrel
    by_cases hlt : j < n
    · obtain ⟨x, hx⟩ : ∃ x, l[j]? = some x := ⟨_, List.getElem?_eq_getElem (by rw [HN.out]; omega)⟩
      obtain ⟨bk, off, rfl, d0, d1, d2⟩ := (HW.out.under HBL.out).lock hx
      have HX := Lib.hid hx
      have y0 : (0 : Int) ≤ j := by omega
      have y1 : (j : Int) < n := by omega
      have HC := Lib.hid (HE.out x wr HBL.out)
      clear hx
      generalize hb : p x = b at *
      have HBE := Lib.hid hb
      clear hb
      cases b with
      | true =>
        have HF : Hid (R = j) := Lib.hid (by rw [← HR.out]; exact idx_hit HX.out HBE.out HNO.out)
        go_upto_region 4 with fail
        go_wp2_with fail
        refine HC.out.mono ?_
        rintro e w1 ⟨rfl, hb1⟩
        have HB1 := Lib.hid (HBL.out.trans (hb1.mono HBL.out.size))
        clear hb1 d0 d1 d2 HBE HNO
        go_wp2
        go_ret
        exact ⟨by rw [HF.out]; rfl, HB1.out⟩
      | false =>
        go_upto_region 4 with fail
        go_wp2_with fail
        refine HC.out.mono ?_
        rintro e w1 ⟨rfl, hb1⟩
        have HB1 := Lib.hid (HBL.out.trans (hb1.mono HBL.out.size))
        have HN2 : Hid (∀ i y, i < j + 1 → l[i]? = some y → p y = false) := Lib.hid fun i y hi hy => by
          by_cases h : i = j
          · subst h; rw [HX.out] at hy; cases hy; exact HBE.out
          · exact HNO.out i y (by omega) hy
        clear hb1 d0 d1 d2 HBE HNO
        go_wp2
        go_roundg (gk - 1)
        case measure => omega
        case rel => exact ⟨j + 1, by omega, by omega, by go_num, HN2, HB1⟩
    · have y1 : ¬ (j : Int) < n := by omega
      have HF : Hid (R = -1) := Lib.hid (by rw [← HR.out]; exact idx_miss fun i y hi hy => HNO.out i y (by have := HN.out; omega) hy)
      go_wp2
      go_ret
      exact ⟨by rw [HF.out]; rfl, HBL.out⟩

set_option maxRecDepth 100000 in
set_option maxHeartbeats 8000000 in
theorem oix_li (p : Lc3 → Bool) (l : List Lc3) (A : Option Addr) (n c : Nat) (g : Nat) (w : World) (hs : SlO lcC 3 w A n c l) (hbig : n ≤ 1048576)
    (HE : Hid (∀ (x : Lc3) W, Below w.heap.size w W → Calls Try.prog 41 #[.agg (lcA x), .pointer (some ⟨g, 0, none⟩)] W fun e w' => e = .returned (.bool (p x)) ∧ Below W.heap.size W w')) :
    Calls Try.prog 61 #[.slice A n c, .func (.func 41) #[] #[.pointer (some ⟨g, 0, none⟩)]] w fun e w' => e = .returned (.int .i64 (idxL p l)) ∧ Below w.heap.size w w' := by
  try unfold lcA at HE
  have HN : Hid (l.length = n) := Lib.hid hs.len13
  have HW := Lib.hid hs
  clear hs
  have x0 : (0 : Int) ≤ n := by omega
  obtain ⟨R, hR⟩ : ∃ R, idxL p l = R := ⟨_, rfl⟩
  have HR := Lib.hid hR
  rw [hR]
  clear hR
  go_enter Try.func61, Try.ntmps61
  go_wp2
  go_loopg [8] n (fun kk v wl => ∃ j : Nat, j ≤ n ∧ n - j ≤ kk ∧ v = .int .i64 j ∧ Hid (∀ i x, i < j → l[i]? = some x → p x = false) ∧ Hid (Below w.heap.size w wl))
  case atStart => exact ⟨0, by omega, by omega, rfl, Lib.hid fun i x h => absurd h (by omega), Lib.hid (Below.refl _ _)⟩
  case round =>
    obtain ⟨j, hj, hjk, rfl, HNO, HBL⟩ := hrel
    by_cases hlt : j < n
    · obtain ⟨x, hx⟩ : ∃ x, l[j]? = some x := ⟨_, List.getElem?_eq_getElem (by rw [HN.out]; omega)⟩
      obtain ⟨bk, off, rfl, d0, d1, d2⟩ := (HW.out.under HBL.out).lock hx
      have HX := Lib.hid hx
      have y0 : (0 : Int) ≤ j := by omega
      have y1 : (j : Int) < n := by omega
      have HC := Lib.hid (HE.out x wr HBL.out)
      clear hx
      generalize hb : p x = b at *
      have HBE := Lib.hid hb
      clear hb
      cases b with
      | true =>
        have HF : Hid (R = j) := Lib.hid (by rw [← HR.out]; exact idx_hit HX.out HBE.out HNO.out)
        go_upto_region 4 with fail
        go_wp2_with fail
        refine HC.out.mono ?_
        rintro e w1 ⟨rfl, hb1⟩
        have HB1 := Lib.hid (HBL.out.trans (hb1.mono HBL.out.size))
        clear hb1 d0 d1 d2 HBE HNO
        go_wp2
        go_ret
        exact ⟨by rw [HF.out]; rfl, HB1.out⟩
      | false =>
        go_upto_region 4 with fail
        go_wp2_with fail
        refine HC.out.mono ?_
        rintro e w1 ⟨rfl, hb1⟩
        have HB1 := Lib.hid (HBL.out.trans (hb1.mono HBL.out.size))
        have HN2 : Hid (∀ i y, i < j + 1 → l[i]? = some y → p y = false) := Lib.hid fun i y hi hy => by
          by_cases h : i = j
          · subst h; rw [HX.out] at hy; cases hy; exact HBE.out
          · exact HNO.out i y (by omega) hy
        clear hb1 d0 d1 d2 HBE HNO
        go_wp2
        go_roundg (gk - 1)
        case measure => omega
        case rel => exact ⟨j + 1, by omega, by omega, by go_num, HN2, HB1⟩
    · have y1 : ¬ (j : Int) < n := by omega
      have HF : Hid (R = -1) := Lib.hid (by rw [← HR.out]; exact idx_miss fun i y hi hy => HNO.out i y (by have := HN.out; omega) hy)
      go_wp2
      go_ret
      exact ⟨by rw [HF.out]; rfl, HBL.out⟩

set_option maxRecDepth 100000 in
set_option maxHeartbeats 8000000 in
theorem oct_li (p : Lc3 → Bool) (l : List Lc3) (A : Option Addr) (n c : Nat) (g : Nat) (w : World) (hs : SlO lcC 3 w A n c l) (hbig : n ≤ 1048576)
    (HE : Hid (∀ (x : Lc3) W, Below w.heap.size w W → Calls Try.prog 41 #[.agg (lcA x), .pointer (some ⟨g, 0, none⟩)] W fun e w' => e = .returned (.bool (p x)) ∧ Below W.heap.size W w')) :
    Calls Try.prog 40 #[.slice A n c, .func (.func 41) #[] #[.pointer (some ⟨g, 0, none⟩)]] w fun e w' => e = .returned (.bool (l.any p)) ∧ Below w.heap.size w w' := by
  have H := Lib.hid (oix_li p l A n c g w hs hbig HE)
  clear hs HE
  rw [← idx_nonneg]
  generalize idxL p l = R at *
  go_enter Try.func40, Try.ntmps40
  go_wp2_with fail
  refine H.out.mono ?_
  rintro e w1 ⟨rfl, hb1⟩
  have HB1 := Lib.hid hb1
  clear hb1 H
  go_wp2
  go_ret
  exact ⟨rfl, HB1.out⟩

set_option maxRecDepth 100000 in
set_option maxHeartbeats 8000000 in
theorem oix_lt (p : Lc3 → Bool) (l : List Lc3) (A : Option Addr) (n c : Nat) (g g1 g2 : Nat) (w : World) (hs : SlO lcC 3 w A n c l) (hbig : n ≤ 1048576)
    (HE : Hid (∀ (x : Lc3) W, Below w.heap.size w W → Calls Try.prog 59 #[.agg (lcA x), .pointer (some ⟨g1, 0, none⟩), .pointer (some ⟨g2, 0, none⟩), .pointer (some ⟨g, 0, none⟩)] W fun e w' => e = .returned (.bool (p x)) ∧ Below W.heap.size W w')) :
    Calls Try.prog 61 #[.slice A n c, .func (.func 59) #[] #[.pointer (some ⟨g1, 0, none⟩), .pointer (some ⟨g2, 0, none⟩), .pointer (some ⟨g, 0, none⟩)]] w fun e w' => e = .returned (.int .i64 (idxL p l)) ∧ Below w.heap.size w w' := by
  try unfold lcA at HE
  have HN : Hid (l.length = n) := Lib.hid hs.len13
  have HW := Lib.hid hs
  clear hs
  have x0 : (0 : Int) ≤ n := by omega
  obtain ⟨R, hR⟩ : ∃ R, idxL p l = R := ⟨_, rfl⟩
  have HR := Lib.hid hR
  rw [hR]
  clear hR
  go_enter Try.func61, Try.ntmps61
  go_wp2
  go_loopg [8] n (fun kk v wl => ∃ j : Nat, j ≤ n ∧ n - j ≤ kk ∧ v = .int .i64 j ∧ Hid (∀ i x, i < j → l[i]? = some x → p x = false) ∧ Hid (Below w.heap.size w wl))
  case atStart => exact ⟨0, by omega, by omega, rfl, Lib.hid fun i x h => absurd h (by omega), Lib.hid (Below.refl _ _)⟩
  case round =>
    obtain ⟨j, hj, hjk, rfl, HNO, HBL⟩ := hrel
    by_cases hlt : j < n
    · obtain ⟨x, hx⟩ : ∃ x, l[j]? = some x := ⟨_, List.getElem?_eq_getElem (by rw [HN.out]; omega)⟩
      obtain ⟨bk, off, rfl, d0, d1, d2⟩ := (HW.out.under HBL.out).lock hx
      have HX := Lib.hid hx
      have y0 : (0 : Int) ≤ j := by omega
      have y1 : (j : Int) < n := by omega
      have HC := Lib.hid (HE.out x wr HBL.out)
      clear hx
      generalize hb : p x = b at *
      have HBE := Lib.hid hb
      clear hb
      cases b with
      | true =>
        have HF : Hid (R = j) := Lib.hid (by rw [← HR.out]; exact idx_hit HX.out HBE.out HNO.out)
        go_upto_region 4 with fail
        go_wp2_with fail
        refine HC.out.mono ?_
        rintro e w1 ⟨rfl, hb1⟩
        have HB1 := Lib.hid (HBL.out.trans (hb1.mono HBL.out.size))
        clear hb1 d0 d1 d2 HBE HNO
        go_wp2
        go_ret
        exact ⟨by rw [HF.out]; rfl, HB1.out⟩
      | false =>
        go_upto_region 4 with fail
        go_wp2_with fail
        refine HC.out.mono ?_
        rintro e w1 ⟨rfl, hb1⟩
        have HB1 := Lib.hid (HBL.out.trans (hb1.mono HBL.out.size))
        have HN2 : Hid (∀ i y, i < j + 1 → l[i]? = some y → p y = false) := Lib.hid fun i y hi hy => by
          by_cases h : i = j
          · subst h; rw [HX.out] at hy; cases hy; exact HBE.out
          · exact HNO.out i y (by omega) hy
        clear hb1 d0 d1 d2 HBE HNO
        go_wp2
        go_roundg (gk - 1)
        case measure => omega
        case rel => exact ⟨j + 1, by omega, by omega, by go_num, HN2, HB1⟩
    · have y1 : ¬ (j : Int) < n := by omega
      have HF : Hid (R = -1) := Lib.hid (by rw [← HR.out]; exact idx_miss fun i y hi hy => HNO.out i y (by have := HN.out; omega) hy)
      go_wp2
      go_ret
      exact ⟨by rw [HF.out]; rfl, HBL.out⟩

set_option maxRecDepth 100000 in
set_option maxHeartbeats 8000000 in
theorem oct_lt (p : Lc3 → Bool) (l : List Lc3) (A : Option Addr) (n c : Nat) (g g1 g2 : Nat) (w : World) (hs : SlO lcC 3 w A n c l) (hbig : n ≤ 1048576)
    (HE : Hid (∀ (x : Lc3) W, Below w.heap.size w W → Calls Try.prog 59 #[.agg (lcA x), .pointer (some ⟨g1, 0, none⟩), .pointer (some ⟨g2, 0, none⟩), .pointer (some ⟨g, 0, none⟩)] W fun e w' => e = .returned (.bool (p x)) ∧ Below W.heap.size W w')) :
    Calls Try.prog 40 #[.slice A n c, .func (.func 59) #[] #[.pointer (some ⟨g1, 0, none⟩), .pointer (some ⟨g2, 0, none⟩), .pointer (some ⟨g, 0, none⟩)]] w fun e w' => e = .returned (.bool (l.any p)) ∧ Below w.heap.size w w' := by
  have H := Lib.hid (oix_lt p l A n c g g1 g2 w hs hbig HE)
  clear hs HE
  rw [← idx_nonneg]
  generalize idxL p l = R at *
  go_enter Try.func40, Try.ntmps40
  go_wp2_with fail
  refine H.out.mono ?_
  rintro e w1 ⟨rfl, hb1⟩
  have HB1 := Lib.hid hb1
  clear hb1 H
  go_wp2
  go_ret
  exact ⟨rfl, HB1.out⟩

theorem zero_lock16 : ∀ w, (zeroValue 50).run Try.prog w = .ok (.agg #[.int .i64 0, .int .i64 0, .int .i64 0]) w := fun w => by
  obtain ⟨i, hi, hz, _, _⟩ := info_parts (P := Try.prog) info_lock16
  simp [zeroValue, typeInfo, hi, hz]
theorem owl_store16 {base b n c i : Nat} {w : World} {L : List Lc3} (h : OwR lcC 3 50 base w (some ⟨b, 0, none⟩) n c L) (hi : i < n) (x : Lc3) : OwR lcC 3 50 base (w.setCells b (i * 3) (lcC x)) (some ⟨b, 0, none⟩) n c (L.set i x) ∧ Below base w (w.setCells b (i * 3) (lcC x)) ∧ w.there b (i * 3) 3 := by
  obtain ⟨g, cur, e, hb, hg, hnc, hcm, hcs, ht⟩ := h.has
  injection e with e _ _
  subst e
  have hl := h.2
  have hlen : (L.flatMap lcC).length = n * 3 := by rw [flat_len (f := lcC) (k := 3) (fun _ => rfl), hl]
  refine ⟨?_, ?_, fun j hj => ⟨?_, hg.thaw _⟩⟩
  · refine owl_has16 hb (((hg.stored (i * 3) (.int .i64 x.route)).stored (i * 3 + 1) (.int .i64 x.train)).stored (i * 3 + 2) (.int .i64 x.no)) hnc hcm (by simpa using hcs) (by rw [List.length_set, hl]) ?_
    rw [Array.toList_setIfInBounds, Array.toList_setIfInBounds, Array.toList_setIfInBounds, List.take_set, List.take_set, List.take_set, ht, spl316 (by rw [hlen]; omega), flat_set16 (by rw [hl]; exact hi)]
    rfl
  · exact (((Below.refl _ _).setCell (p := ⟨b, i * 3, none⟩) hb _).setCell (p := ⟨b, i * 3 + 1, none⟩) hb _).setCell (p := ⟨b, i * 3 + 2, none⟩) hb _
  · rw [hg.cell, Array.getElem?_eq_getElem (by rw [hcs]; omega)]
    rfl
/-- The rest of the row made nought. -/
theorem owl_clear16 {base b n c i : Nat} {w : World} {L : List Lc3} (h : OwR lcC 3 50 base w (some ⟨b, 0, none⟩) n c L) (hi : i < n) :
    ∃ W, (∀ ty dc, (Builtin.clear_ #[32] ty #[.slice (some ⟨b, i * 3, none⟩) (n - i) dc]).run Try.prog w = .ok (.tuple #[]) W) ∧ OwR lcC 3 50 base W (some ⟨b, 0, none⟩) i c (L.take i) ∧ Below base w W := by
  obtain ⟨g, cur, e, hb, hg, hnc, hcm, hcs, ht⟩ := h.has
  injection e with e _ _
  subst e
  have hl := h.2
  have hZ : (Builtin.zeroCells (Value.agg #[.int .i64 0, .int .i64 0, .int .i64 0]).cells (n - i)).toList.length = (n - i) * 3 := by simp [Builtin.zeroCells, Value.cells]
  have hcl : cur.toList.length = c * 3 := by rw [Array.length_toList, hcs]
  refine ⟨w.setRow b (splL cur.toList (i * 3) (Builtin.zeroCells (Value.agg #[.int .i64 0, .int .i64 0, .int .i64 0]).cells (n - i)).toList).toArray, fun ty dc => ?_, ?_, below_row (Below.refl _ _) hb _⟩
  · refine run_clear_rowL w 32 50 ty _ Try.underlying32 zero_lock16 (by intro v hv; simp [Value.cells] at hv; subst hv; rfl) b (i * 3) (n - i) dc cur hg ?_ (by omega)
    show i * 3 + (n - i) * 3 ≤ cur.size
    rw [hcs]
    omega
  · have h1 : OwR lcC 3 50 base w (some ⟨b, 0, none⟩) i c (L.take i) := owl_take16 h (by omega)
    refine owl_has16 hb (has_row11 hg _) (by omega) hcm (by rw [List.size_toArray, splL_len _ _ _ (by rw [hZ, hcl]; omega), hcl]) (by rw [List.length_take, hl]; omega) ?_
    rw [List.toList_toArray, splL_take _ _ _ (by rw [hcl]; omega)]
    rw [(flat_parts16 (by rw [hl]; omega)).1, ← ht, List.take_take, Nat.min_eq_left (by omega)]

set_option maxRecDepth 100000 in
set_option maxHeartbeats 20000000 in
theorem odf_lf (p : Lc3 → Bool) (l : List Lc3) (A : Option Addr) (n c base : Nat) (g : Nat) (w : World) (hs : OwR lcC 3 50 base w A n c l) (hbig : n ≤ 1000) (hbase : base ≤ w.heap.size)
    (HE : Hid (∀ (x : Lc3) W, Below base w W → Calls Try.prog 26 #[.agg (lcA x), .pointer (some ⟨g, 0, none⟩)] W fun e w' => e = .returned (.bool (p x)) ∧ Below W.heap.size W w')) :
    Calls Try.prog 45 #[.slice A n c, .func (.func 26) #[] #[.pointer (some ⟨g, 0, none⟩)]] w fun e w' => ∃ k, e = .returned (.slice A k c) ∧ OwR lcC 3 50 base w' A k c (l.filter fun k => !p k) ∧ Below base w w' := by
  have HIX := Lib.hid (oix_lf p l A n c g w hs.sl (by omega) (Lib.hid fun x W hW => HE.out x W (hW.mono hbase)))
  have HLN := Lib.hid hs.2
  have HS := Lib.hid hs
  have HBS := Lib.hid hbase
  rcases idxA_spec p l 0 with ⟨h1, h2⟩ | ⟨i, x, h1, h2, h3, h4⟩
  · have HF : Hid (l.filter (fun k => !p k) = l) := Lib.hid (by
      rw [List.filter_eq_self]
      intro y hy
      obtain ⟨k, hk, rfl⟩ := List.getElem_of_mem hy
      rw [h2 k _ (List.getElem?_eq_getElem hk)]
      rfl)
    rw [show idxL p l = -1 from h1] at HIX
    clear h1 h2 hs hbase HE
    go_enter Try.func45, Try.ntmps45
    go_wp2_with fail
    refine HIX.out.mono ?_
    rintro e w1 ⟨rfl, hb1⟩
    have HO1 := Lib.hid (HS.out.under hb1)
    have HB1 := Lib.hid (hb1.mono HBS.out)
    clear hb1 HIX HS
    go_wp2
    go_ret
    exact ⟨n, rfl, by rw [HF.out]; exact HO1.out, HB1.out⟩
  · have hin : i < n := by have h_ := (List.getElem?_eq_some_iff.1 h1).1; have := HLN.out; omega
    have HD0 := Lib.hid (del_start16 h1 h2 h3)
    have e0 : idxL p l = (i : Int) := by unfold idxL; rw [h4]; congr 1; omega
    rw [e0] at HIX
    obtain ⟨b, rfl, hbb, _⟩ := hs.some (by omega)
    have HCN := Lib.hid hs.cap
    have HBB := Lib.hid hbb
    have x0 : (0 : Int) ≤ i := by omega
    have x1 : (i : Int) < n := by omega
    have x2 : (n : Int) ≤ 1000 := by omega
    have x3 : ¬ ((i : Int) = -1) := by omega
    have HNB := Lib.hid (show i + 1 ≤ n ∧ n ≤ 1000 from ⟨hin, hbig⟩)
    clear h1 h2 h3 h4 e0 hs hbase hin hbb hbig
    go_enter Try.func45, Try.ntmps45
    go_wp2_with fail
    refine HIX.out.mono ?_
    rintro e w1 ⟨rfl, hb1⟩
    have HO1 := Lib.hid (HS.out.under hb1)
    have HB1 := Lib.hid (hb1.mono HBS.out)
    clear hb1 HIX HS
    go_upto_region 5 with fail
    clear x0 x1 x2 x3
    go_loopg [5, 6] n (fun kk v5 v6 wl => ∃ (i j : Nat) (L : List Lc3), j ≤ n ∧ n - j ≤ kk ∧ v5 = .int .i64 i ∧ v6 = .int .i64 j ∧ Hid (DelP16 p l L i j) ∧ Hid (OwR lcC 3 50 base wl (some ⟨b, 0, none⟩) n c L) ∧ Hid (Below base w wl))
    case atStart => exact ⟨i, i + 1, l, HNB.out.1, by omega, rfl, by first | rfl | (rw [IntWalk.wrap64_in _ (by have := HNB.out; omega)]; go_num) | go_num, HD0, HO1, HB1⟩
    case round =>
      clear HO1 HB1 HD0
      obtain ⟨i, j, L, hj, hjk, rfl, rfl, HD, HO, HB⟩ := hrel
      obtain ⟨k1, hk1⟩ : ∃ k1, k1 = gk := ⟨_, rfl⟩
      subst hk1
      obtain ⟨wv, hwv⟩ : ∃ wv, wv = wr := ⟨_, rfl⟩
      subst hwv
      by_cases hlt : j < n
      rotate_left
      · obtain rfl : j = n := by omega
        have hdi := HD.out.le
        obtain ⟨W, hcl, hoW, hbW⟩ := owl_clear16 HO.out hdi
        have HF : Hid (L.take i = l.filter fun k => !p k) := Lib.hid (by have h_ := HLN.out; have h2_ := HD.out; rw [← h_] at h2_; exact del_end16 h2_)
        have HOW := Lib.hid hoW; have HBW := Lib.hid (HB.out.trans hbW)
        have y0 : (0 : Int) ≤ i := by omega
        have y1 : (i : Int) ≤ j := by omega
        have y2 : i ≤ j := by omega
        have y3 : j ≤ c := HCN.out
        have y4 : ¬ c = i := by omega
        have y5 : (j : Int) ≤ c := by omega
        have y6 : i ≤ c := by omega
        have y7 : (i : Int) ≤ c := by omega
        have y8 : ¬ (j : Int) < j := by omega
        clear hoW hbW hjk hlt hj hdi HD HO HB
        go_wp2
        go_ret
        exact ⟨i, rfl, by rw [← HF.out]; exact HOW.out, HBW.out⟩
      obtain ⟨x, hx⟩ : ∃ x, l[j]? = some x := ⟨_, List.getElem?_eq_getElem (by rw [HLN.out]; exact hlt)⟩
      have HX := Lib.hid hx
      obtain ⟨bk, off, e_, d0, d1, d2⟩ := HO.out.sl.lock (del_at16 HD.out hx)
      injection e_ with e_
      injection e_ with e1_ e2_ _
      subst e1_ e2_
      rw [Nat.zero_add] at d0 d1 d2
      have HIN := Lib.hid (show j < n ∧ n - j ≤ k1 from ⟨hlt, hjk⟩)
      have HDI := Lib.hid (show i < n from by have := HD.out.le; omega)
      have y0 : (0 : Int) ≤ j := by omega
      have y1 : (j : Int) < n := by omega
      clear hx hjk hlt hj
      obtain ⟨kr, kt, kn⟩ := x
      dsimp only at d0 d1 d2
      go_upto_region 8 with fail
      obtain ⟨wb, hwb⟩ : ∃ wb, wv.alloc (.cells #[.int .i64 kr, .int .i64 kt, .int .i64 kn] 50) = wb := ⟨_, rfl⟩
      rw [hwb]
      have hbb : Below base wv wb := by rw [← hwb]; exact (Below.refl _ _).alloc (Nat.le_trans HBS.out HB.out.size) _
      have hH : Has wb wv.heap.size 50 #[.int .i64 kr, .int .i64 kt, .int .i64 kn] := by rw [← hwb]; exact Has.made _ _ _
      have HBW := Lib.hid (HB.out.trans hbb)
      have HOW := Lib.hid (HO.out.under (show Below wv.heap.size wv wb from by rw [← hwb]; exact (Below.refl _ _).alloc (Nat.le_refl _) _))
      obtain ⟨gl, hgl⟩ : ∃ g, wv.heap.size = g := ⟨_, rfl⟩
      simp only [hgl] at hH ⊢
      have HH := Lib.hid hH
      clear hwb hbb hH hgl d0 d1 d2 HO HB
      have HC := Lib.hid (HE.out ⟨kr, kt, kn⟩ wb HBW.out)
      unfold lcA at HC
      dsimp only at HC
      obtain ⟨q, hq⟩ : ∃ q, p ⟨kr, kt, kn⟩ = q := ⟨_, rfl⟩
      rw [hq] at HC
      have HQ := Lib.hid hq
      clear hq
      go_wp2_with (with_reducible refine wpList_load_row (o := ⟨some 27, _, _, _, _, _⟩) rfl 50 _ rfl (gl) rfl 50 #[.int .i64 kr, .int .i64 kt, .int .i64 kn] (0, 0) _ (HH.out).raw11 Try.underlying50 rfl (by kernel_rfl) ?_)
      refine HC.out.mono ?_
      rintro e w2 ⟨rfl, hb2⟩
      have HB2 := Lib.hid (HBW.out.trans (hb2.mono (Nat.le_trans HBS.out HBW.out.size)))
      have HO2 := Lib.hid (HOW.out.under hb2)
      have HH2 := Lib.hid (HH.out.under hb2 HH.out.lt)
      clear hb2 HC HOW HBW HH
      cases q with
      | true =>
        have HD2 := Lib.hid (del_drop16 HD.out HX.out HQ.out)
        clear HD HX HQ HH2
        go_wp2
        go_roundg (k1 - 1)
        case measure => have := HIN.out; omega
        case rel => exact ⟨i, j + 1, L, by have := HIN.out; omega, by have := HIN.out; omega, rfl, by rw [IntWalk.wrap64_in _ (by have h1_ := HIN.out; have h2_ := HNB.out; omega)]; go_num, HD2, HO2, HB2⟩
      | false =>
        have HD2 := Lib.hid (del_keep16 HD.out HX.out HQ.out)
        have HST := Lib.hid (owl_store16 HO2.out HDI.out ⟨kr, kt, kn⟩)
        unfold lcC at HST
        dsimp only at HST
        obtain ⟨hs1, hs2, hs3⟩ := HST.out
        have HO3 := Lib.hid hs1; have HB3 := Lib.hid (HB2.out.trans hs2)
        have HTH : Hid (w2.there b (i * 3) (#[.int .i64 kr, .int .i64 kt, .int .i64 kn] : Array Value).size) := Lib.hid hs3
        have z0 : (0 : Int) ≤ i := by omega
        have z1 : (i : Int) < n := by have := HDI.out; omega
        clear HD HX HQ hs1 hs2 hs3 HST HO2
        go_wp2_with (first | (with_reducible refine wpList_load_row (o := ⟨some 32, _, _, _, _, _⟩) rfl 50 _ rfl (gl) rfl 50 #[.int .i64 kr, .int .i64 kt, .int .i64 kn] (0, 0) _ (HH2.out).raw11 Try.underlying50 rfl (by kernel_rfl) ?_) | (with_reducible refine wpList_store_mid (op := ⟨none, _, _, _, _, _⟩) rfl 50 _ _ rfl b (i * 3) #[.int .i64 kr, .int .i64 kt, .int .i64 kn] rfl rfl HTH.out (by kernel_rfl) (by kernel_rfl) ?_))
        go_roundg (k1 - 1)
        case measure => have := HIN.out; omega
        case rel => exact ⟨i + 1, j + 1, L.set i ⟨kr, kt, kn⟩, by have := HIN.out; omega, by have := HIN.out; omega, by rw [IntWalk.wrap64_in _ (by have h1_ := HDI.out; have h2_ := HNB.out; omega)]; go_num, by rw [IntWalk.wrap64_in _ (by have h1_ := HIN.out; have h2_ := HNB.out; omega)]; go_num, HD2, HO3, HB3⟩

set_option maxRecDepth 100000 in
set_option maxHeartbeats 20000000 in
theorem odf_lo (p : Lc3 → Bool) (l : List Lc3) (A : Option Addr) (n c base : Nat) (g : Nat) (w : World) (hs : OwR lcC 3 50 base w A n c l) (hbig : n ≤ 1000) (hbase : base ≤ w.heap.size)
    (HE : Hid (∀ (x : Lc3) W, Below base w W → Calls Try.prog 39 #[.agg (lcA x), .pointer (some ⟨g, 0, none⟩)] W fun e w' => e = .returned (.bool (p x)) ∧ Below W.heap.size W w')) :
    Calls Try.prog 45 #[.slice A n c, .func (.func 39) #[] #[.pointer (some ⟨g, 0, none⟩)]] w fun e w' => ∃ k, e = .returned (.slice A k c) ∧ OwR lcC 3 50 base w' A k c (l.filter fun k => !p k) ∧ Below base w w' := by
  have HIX := Lib.hid (oix_lo p l A n c g w hs.sl (by omega) (Lib.hid fun x W hW => HE.out x W (hW.mono hbase)))
  have HLN := Lib.hid hs.2
  have HS := Lib.hid hs
  have HBS := Lib.hid hbase
  rcases idxA_spec p l 0 with ⟨h1, h2⟩ | ⟨i, x, h1, h2, h3, h4⟩
  · have HF : Hid (l.filter (fun k => !p k) = l) := Lib.hid (by
      rw [List.filter_eq_self]
      intro y hy
      obtain ⟨k, hk, rfl⟩ := List.getElem_of_mem hy
      rw [h2 k _ (List.getElem?_eq_getElem hk)]
      rfl)
    rw [show idxL p l = -1 from h1] at HIX
    clear h1 h2 hs hbase HE
    go_enter Try.func45, Try.ntmps45
    go_wp2_with fail
    refine HIX.out.mono ?_
    rintro e w1 ⟨rfl, hb1⟩
    have HO1 := Lib.hid (HS.out.under hb1)
    have HB1 := Lib.hid (hb1.mono HBS.out)
    clear hb1 HIX HS
    go_wp2
    go_ret
    exact ⟨n, rfl, by rw [HF.out]; exact HO1.out, HB1.out⟩
  · have hin : i < n := by have h_ := (List.getElem?_eq_some_iff.1 h1).1; have := HLN.out; omega
    have HD0 := Lib.hid (del_start16 h1 h2 h3)
    have e0 : idxL p l = (i : Int) := by unfold idxL; rw [h4]; congr 1; omega
    rw [e0] at HIX
    obtain ⟨b, rfl, hbb, _⟩ := hs.some (by omega)
    have HCN := Lib.hid hs.cap
    have HBB := Lib.hid hbb
    have x0 : (0 : Int) ≤ i := by omega
    have x1 : (i : Int) < n := by omega
    have x2 : (n : Int) ≤ 1000 := by omega
    have x3 : ¬ ((i : Int) = -1) := by omega
    have HNB := Lib.hid (show i + 1 ≤ n ∧ n ≤ 1000 from ⟨hin, hbig⟩)
    clear h1 h2 h3 h4 e0 hs hbase hin hbb hbig
    go_enter Try.func45, Try.ntmps45
    go_wp2_with fail
    refine HIX.out.mono ?_
    rintro e w1 ⟨rfl, hb1⟩
    have HO1 := Lib.hid (HS.out.under hb1)
    have HB1 := Lib.hid (hb1.mono HBS.out)
    clear hb1 HIX HS
    go_upto_region 5 with fail
    clear x0 x1 x2 x3
    go_loopg [5, 6] n (fun kk v5 v6 wl => ∃ (i j : Nat) (L : List Lc3), j ≤ n ∧ n - j ≤ kk ∧ v5 = .int .i64 i ∧ v6 = .int .i64 j ∧ Hid (DelP16 p l L i j) ∧ Hid (OwR lcC 3 50 base wl (some ⟨b, 0, none⟩) n c L) ∧ Hid (Below base w wl))
    case atStart => exact ⟨i, i + 1, l, HNB.out.1, by omega, rfl, by first | rfl | (rw [IntWalk.wrap64_in _ (by have := HNB.out; omega)]; go_num) | go_num, HD0, HO1, HB1⟩
    case round =>
      clear HO1 HB1 HD0
      obtain ⟨i, j, L, hj, hjk, rfl, rfl, HD, HO, HB⟩ := hrel
      obtain ⟨k1, hk1⟩ : ∃ k1, k1 = gk := ⟨_, rfl⟩
      subst hk1
      obtain ⟨wv, hwv⟩ : ∃ wv, wv = wr := ⟨_, rfl⟩
      subst hwv
      by_cases hlt : j < n
      rotate_left
      · obtain rfl : j = n := by omega
        have hdi := HD.out.le
        obtain ⟨W, hcl, hoW, hbW⟩ := owl_clear16 HO.out hdi
        have HF : Hid (L.take i = l.filter fun k => !p k) := Lib.hid (by have h_ := HLN.out; have h2_ := HD.out; rw [← h_] at h2_; exact del_end16 h2_)
        have HOW := Lib.hid hoW; have HBW := Lib.hid (HB.out.trans hbW)
        have y0 : (0 : Int) ≤ i := by omega
        have y1 : (i : Int) ≤ j := by omega
        have y2 : i ≤ j := by omega
        have y3 : j ≤ c := HCN.out
        have y4 : ¬ c = i := by omega
        have y5 : (j : Int) ≤ c := by omega
        have y6 : i ≤ c := by omega
        have y7 : (i : Int) ≤ c := by omega
        have y8 : ¬ (j : Int) < j := by omega
        clear hoW hbW hjk hlt hj hdi HD HO HB
        go_wp2
        go_ret
        exact ⟨i, rfl, by rw [← HF.out]; exact HOW.out, HBW.out⟩
      obtain ⟨x, hx⟩ : ∃ x, l[j]? = some x := ⟨_, List.getElem?_eq_getElem (by rw [HLN.out]; exact hlt)⟩
      have HX := Lib.hid hx
      obtain ⟨bk, off, e_, d0, d1, d2⟩ := HO.out.sl.lock (del_at16 HD.out hx)
      injection e_ with e_
      injection e_ with e1_ e2_ _
      subst e1_ e2_
      rw [Nat.zero_add] at d0 d1 d2
      have HIN := Lib.hid (show j < n ∧ n - j ≤ k1 from ⟨hlt, hjk⟩)
      have HDI := Lib.hid (show i < n from by have := HD.out.le; omega)
      have y0 : (0 : Int) ≤ j := by omega
      have y1 : (j : Int) < n := by omega
      clear hx hjk hlt hj
      obtain ⟨kr, kt, kn⟩ := x
      dsimp only at d0 d1 d2
      go_upto_region 8 with fail
      obtain ⟨wb, hwb⟩ : ∃ wb, wv.alloc (.cells #[.int .i64 kr, .int .i64 kt, .int .i64 kn] 50) = wb := ⟨_, rfl⟩
      rw [hwb]
      have hbb : Below base wv wb := by rw [← hwb]; exact (Below.refl _ _).alloc (Nat.le_trans HBS.out HB.out.size) _
      have hH : Has wb wv.heap.size 50 #[.int .i64 kr, .int .i64 kt, .int .i64 kn] := by rw [← hwb]; exact Has.made _ _ _
      have HBW := Lib.hid (HB.out.trans hbb)
      have HOW := Lib.hid (HO.out.under (show Below wv.heap.size wv wb from by rw [← hwb]; exact (Below.refl _ _).alloc (Nat.le_refl _) _))
      obtain ⟨gl, hgl⟩ : ∃ g, wv.heap.size = g := ⟨_, rfl⟩
      simp only [hgl] at hH ⊢
      have HH := Lib.hid hH
      clear hwb hbb hH hgl d0 d1 d2 HO HB
      have HC := Lib.hid (HE.out ⟨kr, kt, kn⟩ wb HBW.out)
      unfold lcA at HC
      dsimp only at HC
      obtain ⟨q, hq⟩ : ∃ q, p ⟨kr, kt, kn⟩ = q := ⟨_, rfl⟩
      rw [hq] at HC
      have HQ := Lib.hid hq
      clear hq
      go_wp2_with (with_reducible refine wpList_load_row (o := ⟨some 27, _, _, _, _, _⟩) rfl 50 _ rfl (gl) rfl 50 #[.int .i64 kr, .int .i64 kt, .int .i64 kn] (0, 0) _ (HH.out).raw11 Try.underlying50 rfl (by kernel_rfl) ?_)
      refine HC.out.mono ?_
      rintro e w2 ⟨rfl, hb2⟩
      have HB2 := Lib.hid (HBW.out.trans (hb2.mono (Nat.le_trans HBS.out HBW.out.size)))
      have HO2 := Lib.hid (HOW.out.under hb2)
      have HH2 := Lib.hid (HH.out.under hb2 HH.out.lt)
      clear hb2 HC HOW HBW HH
      cases q with
      | true =>
        have HD2 := Lib.hid (del_drop16 HD.out HX.out HQ.out)
        clear HD HX HQ HH2
        go_wp2
        go_roundg (k1 - 1)
        case measure => have := HIN.out; omega
        case rel => exact ⟨i, j + 1, L, by have := HIN.out; omega, by have := HIN.out; omega, rfl, by rw [IntWalk.wrap64_in _ (by have h1_ := HIN.out; have h2_ := HNB.out; omega)]; go_num, HD2, HO2, HB2⟩
      | false =>
        have HD2 := Lib.hid (del_keep16 HD.out HX.out HQ.out)
        have HST := Lib.hid (owl_store16 HO2.out HDI.out ⟨kr, kt, kn⟩)
        unfold lcC at HST
        dsimp only at HST
        obtain ⟨hs1, hs2, hs3⟩ := HST.out
        have HO3 := Lib.hid hs1; have HB3 := Lib.hid (HB2.out.trans hs2)
        have HTH : Hid (w2.there b (i * 3) (#[.int .i64 kr, .int .i64 kt, .int .i64 kn] : Array Value).size) := Lib.hid hs3
        have z0 : (0 : Int) ≤ i := by omega
        have z1 : (i : Int) < n := by have := HDI.out; omega
        clear HD HX HQ hs1 hs2 hs3 HST HO2
        go_wp2_with (first | (with_reducible refine wpList_load_row (o := ⟨some 32, _, _, _, _, _⟩) rfl 50 _ rfl (gl) rfl 50 #[.int .i64 kr, .int .i64 kt, .int .i64 kn] (0, 0) _ (HH2.out).raw11 Try.underlying50 rfl (by kernel_rfl) ?_) | (with_reducible refine wpList_store_mid (op := ⟨none, _, _, _, _, _⟩) rfl 50 _ _ rfl b (i * 3) #[.int .i64 kr, .int .i64 kt, .int .i64 kn] rfl rfl HTH.out (by kernel_rfl) (by kernel_rfl) ?_))
        go_roundg (k1 - 1)
        case measure => have := HIN.out; omega
        case rel => exact ⟨i + 1, j + 1, L.set i ⟨kr, kt, kn⟩, by have := HIN.out; omega, by have := HIN.out; omega, by rw [IntWalk.wrap64_in _ (by have h1_ := HDI.out; have h2_ := HNB.out; omega)]; go_num, by rw [IntWalk.wrap64_in _ (by have h1_ := HIN.out; have h2_ := HNB.out; omega)]; go_num, HD2, HO3, HB3⟩

set_option maxRecDepth 100000 in
set_option maxHeartbeats 8000000 in
theorem owo_lf (p : Lc3 → Bool) (l : List Lc3) (A : Option Addr) (n c : Nat) (g : Nat) (w : World) (hs : SlO lcC 3 w A n c l) (hn : n ≤ 1000)
    (HE : Hid (∀ (x : Lc3) W, Below w.heap.size w W → Calls Try.prog 26 #[.agg (lcA x), .pointer (some ⟨g, 0, none⟩)] W fun e w' => e = .returned (.bool (p x)) ∧ Below W.heap.size W w')) :
    Calls Try.prog 25 #[.slice A n c, .func (.func 26) #[] #[.pointer (some ⟨g, 0, none⟩)]] w fun e w' => ∃ X k x, e = .returned (.slice X k x) ∧ OwR lcC 3 50 w.heap.size w' X k x (l.filter fun k => !p k) ∧ Below w.heap.size w w' := by
  have H := Lib.hid (oclonel_any A n c l w hs hn)
  have HN := Lib.hid hn
  clear hs hn
  go_enter Try.func25, Try.ntmps25
  go_wp2_with fail
  refine H.out.mono ?_
  rintro e w1 ⟨X, x, rfl, ho1, hb1⟩
  have HO1 := Lib.hid ho1; have HB1 := Lib.hid hb1
  clear ho1 hb1 H
  go_wp2_with fail
  refine (odf_lf p l X n x w.heap.size g w1 HO1.out HN.out HB1.out.size (Lib.hid fun y W hW => HE.out y W (HB1.out.trans hW))).mono ?_
  rintro e w2 ⟨k, rfl, ho2, hb2⟩
  have HO2 := Lib.hid ho2; have HB2 := Lib.hid (HB1.out.trans hb2)
  clear ho2 hb2 HO1 HB1
  go_wp2
  go_ret
  exact ⟨X, k, x, rfl, HO2.out, HB2.out⟩

set_option maxRecDepth 100000 in
set_option maxHeartbeats 8000000 in
theorem owo_lo (p : Lc3 → Bool) (l : List Lc3) (A : Option Addr) (n c : Nat) (g : Nat) (w : World) (hs : SlO lcC 3 w A n c l) (hn : n ≤ 1000)
    (HE : Hid (∀ (x : Lc3) W, Below w.heap.size w W → Calls Try.prog 39 #[.agg (lcA x), .pointer (some ⟨g, 0, none⟩)] W fun e w' => e = .returned (.bool (p x)) ∧ Below W.heap.size W w')) :
    Calls Try.prog 25 #[.slice A n c, .func (.func 39) #[] #[.pointer (some ⟨g, 0, none⟩)]] w fun e w' => ∃ X k x, e = .returned (.slice X k x) ∧ OwR lcC 3 50 w.heap.size w' X k x (l.filter fun k => !p k) ∧ Below w.heap.size w w' := by
  have H := Lib.hid (oclonel_any A n c l w hs hn)
  have HN := Lib.hid hn
  clear hs hn
  go_enter Try.func25, Try.ntmps25
  go_wp2_with fail
  refine H.out.mono ?_
  rintro e w1 ⟨X, x, rfl, ho1, hb1⟩
  have HO1 := Lib.hid ho1; have HB1 := Lib.hid hb1
  clear ho1 hb1 H
  go_wp2_with fail
  refine (odf_lo p l X n x w.heap.size g w1 HO1.out HN.out HB1.out.size (Lib.hid fun y W hW => HE.out y W (HB1.out.trans hW))).mono ?_
  rintro e w2 ⟨k, rfl, ho2, hb2⟩
  have HO2 := Lib.hid ho2; have HB2 := Lib.hid (HB1.out.trans hb2)
  clear ho2 hb2 HO1 HB1
  go_wp2
  go_ret
  exact ⟨X, k, x, rfl, HO2.out, HB2.out⟩

set_option maxRecDepth 100000 in
set_option maxHeartbeats 8000000 in
theorem olthere_any (l : List Lc3) (route : Int) (A : Option Addr) (n c : Nat) (w : World) (hs : SlO lcC 3 w A n c l) (hn : n ≤ 1000) :
    Calls Try.prog 21 #[.slice A n c, .int .i64 route] w fun r w' => r = .returned (.bool (thereB l route)) ∧ Below w.heap.size w w' := by
  obtain ⟨wa, hwa⟩ : ∃ wa, w.alloc (.cells #[.int .i64 route] 3) = wa := ⟨_, rfl⟩
  have hbwa : Below w.heap.size w wa := by rw [← hwa]; exact (Below.refl _ _).alloc (Nat.le_refl _) _
  have h0 : Has wa (w.heap.size) 3 #[.int .i64 route] := by rw [← hwa]; exact (Has.made _ _ _)
  have HWA := Lib.hid hwa; have HBWA := Lib.hid hbwa
  have n0 : wa.cell? ⟨w.heap.size, 0, none⟩ = some (.int .i64 route) := h0.cell 0
  have H := Lib.hid (oct_li (fun k => k.route == route) l A n c (w.heap.size) wa (hs.under hbwa) (by omega) (Lib.hid fun x W hW => olci_any x route (w.heap.size) W ((hW.cell (cell_block n0)).trans n0)))
  unfold thereB
  generalize (l.any fun k => k.route == route) = R at *
  clear hwa hbwa h0 hs n0
  go_enter Try.func21, Try.ntmps21
  go_upto_region 1 with fail
  rw [HWA.out]
  clear HWA
  go_wp2_with fail
  refine H.out.mono ?_
  rintro e_ w1 ⟨rfl, hb1⟩
  have HB1 := Lib.hid (HBWA.out.trans (hb1.mono HBWA.out.size))
  clear hb1 H HBWA
  go_wp2
  go_ret
  exact ⟨rfl, HB1.out⟩

theorem of_eq16 (l : List Lc3) (train : Int) : (l.filter fun k => !(!(k.train == train))) = ofL l train := by
  unfold ofL
  congr 1
  funext k
  rw [Bool.not_not]
set_option maxRecDepth 100000 in
set_option maxHeartbeats 8000000 in
theorem oolof_any (l : List Lc3) (train : Int) (A : Option Addr) (n c : Nat) (w : World) (hs : SlO lcC 3 w A n c l) (hn : n ≤ 1000) :
    Calls Try.prog 20 #[.slice A n c, .int .i64 train] w fun r w' => ∃ X k x, r = .returned (.slice X k x) ∧ LkT w' X k x (ofL l train) ∧ Below w.heap.size w w' := by
  obtain ⟨wa, hwa⟩ : ∃ wa, w.alloc (.cells #[.int .i64 train] 3) = wa := ⟨_, rfl⟩
  have hbwa : Below w.heap.size w wa := by rw [← hwa]; exact (Below.refl _ _).alloc (Nat.le_refl _) _
  have h0 : Has wa (w.heap.size) 3 #[.int .i64 train] := by rw [← hwa]; exact (Has.made _ _ _)
  have HWA := Lib.hid hwa; have HBWA := Lib.hid hbwa
  have n0 : wa.cell? ⟨w.heap.size, 0, none⟩ = some (.int .i64 train) := h0.cell 0
  have H := Lib.hid (owo_lo (fun k => !(k.train == train)) l A n c (w.heap.size) wa (hs.under hbwa) hn (Lib.hid fun x W hW => olco_any x train (w.heap.size) W ((hW.cell (cell_block n0)).trans n0)))
  rw [of_eq16] at H
  generalize ofL l train = R at *
  clear hwa hbwa h0 hs n0 hn
  go_enter Try.func20, Try.ntmps20
  go_upto_region 1 with fail
  rw [HWA.out]
  clear HWA
  go_wp2_with fail
  refine H.out.mono ?_
  rintro e_ w1 ⟨X, k, x, rfl, ho1, hb1⟩
  have HO1 := Lib.hid (LkT.of_own ho1)
  have HB1 := Lib.hid (HBWA.out.trans (hb1.mono HBWA.out.size))
  clear hb1 ho1 H HBWA
  go_wp2
  go_ret
  exact ⟨X, k, x, rfl, HO1.out, HB1.out⟩

theorem olc_of (l : List Lc3) (train : Int) (A : Option Addr) (n c : Nat) (w : World) (hs : SlO lcC 3 w A n c l) (_ : n ≤ c) (hn : n ≤ 1000) : Calls Try.prog 20 #[.slice A n c, .int .i64 train] w fun r w' => ∃ X k x, r = .returned (.slice X k x) ∧ LkT w' X k x (ofL l train) ∧ Below w.heap.size w w' := oolof_any l train A n c w hs hn
set_option maxRecDepth 100000 in
set_option maxHeartbeats 8000000 in
theorem olc_new (w : World) : Calls Try.prog 8 #[] w fun r w' => ∃ X x, r = .returned (.agg #[.slice X 0 x, .int .i64 1]) ∧ LkT w' X 0 x [] ∧ Below w.heap.size w w' := by
  obtain ⟨wa, hwa⟩ : ∃ wa, w.alloc (.cells #[.slice none 0 0, .int .i64 0] 34) = wa := ⟨_, rfl⟩
  have hbwa : Below w.heap.size w wa := by rw [← hwa]; exact (Below.refl _ _).alloc (Nat.le_refl _) _
  have h0 : Has wa (w.heap.size) 34 #[.slice none 0 0, .int .i64 0] := by rw [← hwa]; exact (Has.made _ _ _)
  have HWA := Lib.hid hwa; have HBWA := Lib.hid hbwa
  have HR := Lib.hid (has_row11 h0 #[.slice none 0 0, .int .i64 1])
  have HBF := Lib.hid (below_row (g := w.heap.size) hbwa (Nat.le_refl _) #[.slice none 0 0, .int .i64 1])
  have HZ := Lib.hid h0
  clear hwa hbwa h0 HBWA
  go_enter Try.func8, Try.ntmps8
  go_upto_region 1 with fail
  rw [HWA.out]
  clear HWA
  go_wp2_with (with_reducible refine wpList_store_rowTo (o := ⟨none, _, _, _, _, _⟩) rfl 34 _ _ rfl rfl (w.heap.size) #[.slice none 0 0, .int .i64 1] rfl rfl 34 _ (HZ.out).raw11 (by kernel_rfl) (by kernel_rfl) (by kernel_rfl) ?_)
  refine bodyPost_ret (results_cell_row rfl _ _ (w.heap.size) 34 _ _ _ rfl HR.out Try.underlying34 rfl (by kernel_rfl)) rfl ?_
  exact ⟨none, 0, rfl, LkT.none _, HBF.out⟩

end Go.Proofs.Yteioefgckigbcaa

/-
  the landed lock: Extent, isTaken, refusal.
-/
namespace Go.Proofs.Yteioefgckigbcaa

open Go.RowKit

open Go.Great

theorem over_err16 {t : Tp3} {path : List St3} {fr tz : Int} (h : (overE t path fr tz).2 ≠ 0) : (overE t path fr tz).1 = [] := by
  unfold overE at h ⊢
  split
  · rename_i h1
    rw [if_pos h1] at h
    split
    · rename_i h2
      rw [if_pos h2] at h
      exact absurd rfl h
    · rfl
  · rfl
theorem ext_over16 {t : Tp3} {path : List St3} {N : Int} (h : edgesOk t = true → N = lenN t path) : (overE t path 0 N).1 = (overE t path 0 (sumT t path)).1 := by
  by_cases h0 : lenE t path = 0
  · exact over_n16 h0 h
  · rw [over_bad16 h0, over_bad16 h0]
def refE (t : Tp3) (l : List Lc3) (route train : Int) : Int :=
  if trainB train = false then 1
  else if (routeF t route).isSome = false then 4
  else if thereB l route = true then 5
  else if metB t l route train = true then 160
  else 0
theorem ref_zero (t : Tp3) (l : List Lc3) (route train : Int) : decide (refE t l route train = 0) = ((routeF t route).isSome && (trainB train && (!thereB l route && !metB t l route train))) := by
  unfold refE
  cases trainB train <;> cases (routeF t route).isSome <;> cases thereB l route <;> cases metB t l route train <;> rfl

set_option maxRecDepth 100000 in
set_option maxHeartbeats 8000000 in
theorem oolext_any (t : Tp3) (a : TpA) (route : Int) (w : World) (ht : TopR w t a) (hl : lightT t = true) : Calls Try.prog 22 #[.agg (tpC t a), .int .i64 route] w fun r w' => ∃ X x, r = .returned (.slice X (extL t route).length x) ∧ SlO snC 3 w' X (extL t route).length x (extL t route) ∧ (extL t route).length ≤ x ∧ Below w.heap.size w w' := by
  obtain ⟨wa, hwa⟩ : ∃ wa, w.alloc (.cells (tpC t a) 27) = wa := ⟨_, rfl⟩
  have hbwa : Below w.heap.size w wa := by rw [← hwa]; exact (Below.refl _ _).alloc (Nat.le_refl _) _
  have h0 : Has wa (w.heap.size) 27 (tpC t a) := by rw [← hwa]; exact (Has.made _ _ _)
  have HWA := Lib.hid hwa; have HBWA := Lib.hid hbwa
  have HT := Lib.hid (fun W (hW : Below w.heap.size w W) => ht.under hW)
  have H0 := Lib.hid (fun W (hW : Below wa.heap.size wa W) => h0.under hW h0.lt)
  have HBA := Lib.hid (fun W (hW : Below wa.heap.size wa W) => hbwa.trans (hW.mono hbwa.size))
  have HNN := Lib.hid (light_nums13 hl)
  have HLT := Lib.hid hl
  obtain ⟨EL, hEL⟩ : ∃ L, extL t route = L := ⟨_, rfl⟩
  rw [hEL]
  have HEL := Lib.hid hEL
  clear hwa hbwa h0 ht hl hEL
  go_enter Try.func22, Try.ntmps22
  go_upto_region 1 with fail
  rw [HWA.out]
  clear HWA
  go_wp2_with (with_reducible refine wpList_load_row (o := ⟨some 12, _, _, _, _, _⟩) rfl 27 _ rfl (w.heap.size) rfl 27 (tpC t a) (0, 0) _ ((H0.out wa (Below.refl _ _))).raw11 Try.underlying27 rfl (by kernel_rfl) ?_)
  refine (otp_routeF t a route wa (HT.out _ HBWA.out) HLT.out).mono ?_
  rintro e w1 ⟨A, c, hs, _, rfl, hb1⟩
  have HB1 := Lib.hid hb1
  have HS1 := Lib.hid hs
  clear hb1 hs
  unfold rtA
  obtain ⟨R, hR⟩ : ∃ R, routeR t route = R := ⟨_, rfl⟩
  rw [hR] at HS1 ⊢
  cases hq : routeF t route with
  | none =>
    obtain rfl : EL = [] := by rw [← HEL.out, ext_no hq]
    clear hR HS1 hq HEL
    go_wp2
    go_ret
    exact ⟨none, 0, rfl, SlO.nil _ _ _, Nat.le_refl _, HBA.out _ (HB1.out.alloc HB1.out.size _)⟩
  | some r =>
    obtain rfl : r = R := by rw [← hR]; unfold routeR; rw [hq]; rfl
    have HRL := Lib.hid (HNN.out.2.2.2.2 r (route_mem16 hq))
    have HEL := Lib.hid (HEL.out.symm.trans (ext_at hq))
    clear hR hq
    obtain ⟨id, path, gap, timer⟩ := r
    dsimp only at *
    generalize path.length = n at *
    go_upto_region 2 with fail
    obtain ⟨wb, hwb⟩ : ∃ wb, w1.alloc (.cells #[.int .i64 id, .slice A n c, .int .i64 gap, .int .i64 timer] 61) = wb := ⟨_, rfl⟩
    rw [hwb]
    have hbb : Below w1.heap.size w1 wb := by rw [← hwb]; exact (Below.refl _ _).alloc (Nat.le_refl _) _
    have hH : Has wb w1.heap.size 61 #[.int .i64 id, .slice A n c, .int .i64 gap, .int .i64 timer] := by rw [← hwb]; exact Has.made _ _ _
    have HBB := Lib.hid (HB1.out.trans (hbb.mono HB1.out.size))
    have HS2 := Lib.hid (fun W (hW : Below wb.heap.size wb W) => (HS1.out.under hbb).under hW)
    have HR2 := Lib.hid (fun W (hW : Below wb.heap.size wb W) => hH.under hW hH.lt)
    have HX := Lib.hid (fun W (hW : Below wb.heap.size wb W) => HBB.out.trans (hW.mono HBB.out.size))
    obtain ⟨gr, hgr⟩ : ∃ g, w1.heap.size = g := ⟨_, rfl⟩
    rw [hgr] at HR2
    simp only [hgr]
    have hcr := (HR2.out wb (Below.refl _ _)).cell 1
    have c1 : wb.cell? ⟨gr, 1, none⟩ = some (.slice A n c) := hcr
    clear hwb hbb hH hgr hcr HS1 HB1
    go_wp2_with (with_reducible refine wpList_load_row (o := ⟨some 20, _, _, _, _, _⟩) rfl 27 _ rfl (w.heap.size) rfl 27 (tpC t a) (0, 0) _ ((H0.out wb HBB.out)).raw11 Try.underlying27 rfl (by kernel_rfl) ?_)
    refine (otp_length_n t a path A n c wb (HT.out _ (HBA.out _ HBB.out)) (HS2.out _ (Below.refl _ _)) (by have := HRL.out; omega) HLT.out).mono ?_
    rintro e w2 ⟨N, rfl, hN, hb2⟩
    have HB2 := Lib.hid hb2
    have HEQ := Lib.hid (show (overE t path 0 N).1 = EL from (ext_over16 hN).trans HEL.out.symm)
    have c2 : w2.cell? ⟨gr, 1, none⟩ = some (.slice A n c) := (HR2.out w2 hb2).cell 1
    clear hb2 hN c1 HEL
    generalize lenE t path = le
    go_upto_region 5 with fail
    go_wp2_with (with_reducible refine wpList_load_row (o := ⟨some 27, _, _, _, _, _⟩) rfl 27 _ rfl (w.heap.size) rfl 27 (tpC t a) (0, 0) _ ((H0.out w2 (HBB.out.trans (HB2.out.mono HBB.out.size)))).raw11 Try.underlying27 rfl (by kernel_rfl) ?_)
    refine (osn_over0 t a path A n c 0 N w2 (HT.out _ (HBA.out _ (HX.out _ HB2.out))) (HS2.out _ HB2.out) (by have := HRL.out; omega) HLT.out).mono ?_
    obtain ⟨er, her⟩ : ∃ e, (overE t path 0 N).2 = e := ⟨_, rfl⟩
    rw [her]
    have HER := Lib.hid (fun h => over_err16 (t := t) (path := path) (fr := 0) (tz := N) (by rw [her]; exact h))
    clear her
    rw [HEQ.out] at HER ⊢
    rintro e w3 ⟨X, x, rfl, hs3, hc3, hb3⟩
    have HS3 := Lib.hid hs3; have HC3 := Lib.hid hc3; have HB3 := Lib.hid ((HX.out _ HB2.out).trans (hb3.mono (HX.out _ HB2.out).size))
    clear hs3 hc3 hb3 c2 HB2 HEQ
    by_cases z0 : er = 0
    · subst z0
      go_wp2
      go_ret
      exact ⟨X, x, rfl, HS3.out, HC3.out, HBA.out _ HB3.out⟩
    · have q0 : (er != 0) = true := by simp [z0]
      obtain rfl : EL = [] := HER.out z0
      clear HER HS3 HC3
      go_wp2
      go_ret
      exact ⟨none, 0, rfl, SlO.nil _ _ _, Nat.le_refl _, HBA.out _ HB3.out⟩

theorem olc_extent (t : Tp3) (a : TpA) (route : Int) (w : World) (ht : TopR w t a) (hl : lightT t = true) (_ : t.joints.length ≤ a.cj) : Calls Try.prog 22 #[.agg (tpC t a), .int .i64 route] w fun r w' => ∃ X x, r = .returned (.slice X (extL t route).length x) ∧ SlO snC 3 w' X (extL t route).length x (extL t route) ∧ (extL t route).length ≤ x ∧ Below w.heap.size w w' := oolext_any t a route w ht hl

set_option maxRecDepth 100000 in
set_option maxHeartbeats 8000000 in
theorem olct_any (t : Tp3) (a : TpA) (x : Lc3) (E : List Sn3) (d : Int) (EA : Option Addr) (m y : Nat) (g g1 g2 : Nat) (w : World) (ht : TopR w t a) (hl : lightT t = true) (h0_ : Has w g 27 (tpC t a)) (h1_ : Has w g1 3 #[.int .i64 d]) (h2_ : Has w g2 39 #[.slice EA m y]) (hE : SlO snC 3 w EA m y E) (hy : m ≤ y) (hm : m ≤ 4096) :
    Calls Try.prog 59 #[.agg (lcA x), .pointer (some ⟨g1, 0, none⟩), .pointer (some ⟨g2, 0, none⟩), .pointer (some ⟨g, 0, none⟩)] w fun r w' => r = .returned (.bool (!(x.train == d) && meetsL E (extL t x.route))) ∧ Below w.heap.size w w' := by
  obtain ⟨kr, kt, kn⟩ := x
  unfold lcA
  dsimp only
  obtain ⟨wa, hwa⟩ : ∃ wa, w.alloc (.cells #[.int .i64 kr, .int .i64 kt, .int .i64 kn] 50) = wa := ⟨_, rfl⟩
  have hbwa : Below w.heap.size w wa := by rw [← hwa]; exact (Below.refl _ _).alloc (Nat.le_refl _) _
  have h0 : Has wa (w.heap.size) 50 #[.int .i64 kr, .int .i64 kt, .int .i64 kn] := by rw [← hwa]; exact (Has.made _ _ _)
  have HWA := Lib.hid hwa; have HBWA := Lib.hid hbwa
  have HT := Lib.hid (fun W (hW : Below wa.heap.size wa W) => (ht.under hbwa).under hW)
  have H0 := Lib.hid (h0_.under hbwa h0_.lt)
  have H1 := Lib.hid (h1_.under hbwa h1_.lt)
  have H2 := Lib.hid (h2_.under hbwa h2_.lt)
  have HE := Lib.hid (fun W (hW : Below wa.heap.size wa W) => (hE.under hbwa).under hW)
  have HX := Lib.hid h0
  have HLT := Lib.hid hl
  have HMY := Lib.hid (show m ≤ y ∧ m ≤ 4096 from ⟨hy, hm⟩)
  obtain ⟨q, hq⟩ : ∃ q, (kt == d) = q := ⟨_, rfl⟩
  have z1 : (kt != d) = !q := by rw [← hq]; rfl
  rw [hq]
  clear hwa hbwa h0 ht hl h0_ h1_ h2_ hE hy hm hq
  cases q with
  | true =>
    have c1 : wa.cell? ⟨w.heap.size, 1, none⟩ = some (.int .i64 kt) := HX.out.cell 1
    have e1 : wa.cell? ⟨g1, 0, none⟩ = some (.int .i64 d) := H1.out.cell 0
    rw [Bool.not_true] at z1
    go_enter Try.func59, Try.ntmps59
    go_upto_region 1 with fail
    rw [HWA.out]
    clear HWA
    go_quiet (fail)
    go_wp2
    go_ret
    exact ⟨rfl, below_draws HBWA.out _⟩
  | false =>
    rw [Bool.not_false] at z1
    obtain ⟨M, hM⟩ : ∃ M, meetsL E (extL t kr) = M := ⟨_, rfl⟩
    rw [hM]
    have HM := Lib.hid hM
    clear hM
    go_enter Try.func59, Try.ntmps59
    go_upto_region 1 with fail
    rw [HWA.out]
    clear HWA
    refine wp_region_held_drew (S := (fun W_ => (Has W_ g 27 (tpC t a)) ∧ (Has W_ (w.heap.size) 50 #[.int .i64 kr, .int .i64 kt, .int .i64 kn]) ∧ (Has W_ g1 3 #[.int .i64 d]) ∧ (Has W_ g2 39 #[.slice EA m y]) ∧ (Below wa.heap.size wa W_))) (by kernel_rfl) ?_ (fun hHeld => ?_)
    · exact ⟨H0.out.draw, HX.out.draw, H1.out.draw, H2.out.draw, below_dr11 (Below.refl _ _)⟩
    refine wpAnyH_take (i := 0) (oi := ⟨some 6, _, _, _, _, _⟩) (v := ?_) rfl (by kernel_rfl) (by kernel_rfl) (by kernel_rfl) (fun _ _ _ h => h) (Or.inl ⟨by rfl, ?_⟩) (by assumption) ?_
    rotate_left
    · intro w_ hSw; (try dsimp only at hSw); go_simp <;> with_reducible rfl
    simp only [Act.put, List.setIfInBounds_toArray, List.set_cons_zero, List.set_cons_succ]
    refine wpAnyH_take (i := 1) (oi := ⟨some 7, _, _, _, _, _⟩) (v := ?_) rfl (by kernel_rfl) (by kernel_rfl) (by kernel_rfl) (fun _ _ _ h => h) (Or.inl ⟨by rfl, ?_⟩) (by assumption) ?_
    rotate_left
    · intro w_ hSw; (try dsimp only at hSw); obtain ⟨s0, s1, s2, s3, s4⟩ := hSw; (have q_ : w_.cell? ⟨w.heap.size, 1, none⟩ = some (.int .i64 kt) := s1.cell 1); go_simp <;> with_reducible rfl
    simp only [Act.put, List.setIfInBounds_toArray, List.set_cons_zero, List.set_cons_succ]
    refine wpAnyH_take (i := 2) (oi := ⟨some 8, _, _, _, _, _⟩) (v := ?_) rfl (by kernel_rfl) (by kernel_rfl) (by kernel_rfl) (fun _ _ _ h => h) (Or.inl ⟨by rfl, ?_⟩) (by assumption) ?_
    rotate_left
    · intro w_ hSw; (try dsimp only at hSw); obtain ⟨s0, s1, s2, s3, s4⟩ := hSw; (have q_ : w_.cell? ⟨g1, 0, none⟩ = some (.int .i64 d) := s2.cell 0); go_simp <;> with_reducible rfl
    simp only [Act.put, List.setIfInBounds_toArray, List.set_cons_zero, List.set_cons_succ]
    refine wpAnyH_take (i := 3) (oi := ⟨some 9, _, _, _, _, _⟩) (v := ?_) rfl (by kernel_rfl) (by kernel_rfl) (by kernel_rfl) (fun _ _ _ h => h) (Or.inl ⟨by rfl, ?_⟩) (by assumption) ?_
    rotate_left
    · intro w_ hSw; (try dsimp only at hSw); go_simp <;> with_reducible rfl
    simp only [Act.put, List.setIfInBounds_toArray, List.set_cons_zero, List.set_cons_succ]
    refine wpAnyH_take (i := 4) (oi := ⟨some 10, _, _, _, _, _⟩) (v := ?_) rfl (by kernel_rfl) (by kernel_rfl) (by kernel_rfl) (fun _ _ _ h => h) (Or.inl ⟨by rfl, ?_⟩) (by assumption) ?_
    rotate_left
    · intro w_ hSw; (try dsimp only at hSw); go_simp <;> with_reducible rfl
    simp only [Act.put, List.setIfInBounds_toArray, List.set_cons_zero, List.set_cons_succ]
    refine wpAnyH_take (i := 5) (oi := ⟨some 11, _, _, _, _, _⟩) (v := ?_) rfl (by kernel_rfl) (by kernel_rfl) (by kernel_rfl) (fun _ _ _ h => h) (Or.inl ⟨by rfl, ?_⟩) (by assumption) ?_
    rotate_left
    · intro w_ hSw; (try dsimp only at hSw); obtain ⟨s0, s1, s2, s3, s4⟩ := hSw; (have q_ : w_.cell? ⟨g2, 0, none⟩ = some (.slice EA m y) := s3.cell 0); go_simp <;> with_reducible rfl
    simp only [Act.put, List.setIfInBounds_toArray, List.set_cons_zero, List.set_cons_succ]
    refine wpAnyH_take (i := 6) (oi := ⟨some 12, _, _, _, _, _⟩) (v := .agg (tpC t a)) rfl (by kernel_rfl) (by kernel_rfl) (by kernel_rfl) (fun _ _ _ h => h) (yields_load_row11 27 _ rfl (g) rfl 27 (tpC t a) _ (fun _ ⟨h_, _, _, _, _⟩ => h_) Try.underlying27 rfl (by kernel_rfl) (by rfl)) (by assumption) ?_
    simp only [Act.put, List.setIfInBounds_toArray, List.set_cons_zero, List.set_cons_succ]
    refine wpAnyH_take (i := 7) (oi := ⟨some 13, _, _, _, _, _⟩) (v := ?_) rfl (by kernel_rfl) (by kernel_rfl) (by kernel_rfl) (fun _ _ _ h => h) (Or.inl ⟨by rfl, ?_⟩) (by assumption) ?_
    rotate_left
    · intro w_ hSw; (try dsimp only at hSw); go_simp <;> with_reducible rfl
    simp only [Act.put, List.setIfInBounds_toArray, List.set_cons_zero, List.set_cons_succ]
    refine wpAnyH_take (i := 8) (oi := ⟨some 14, _, _, _, _, _⟩) (v := ?_) rfl (by kernel_rfl) (by kernel_rfl) (by kernel_rfl) (fun _ _ _ h => h) (Or.inl ⟨by rfl, ?_⟩) (by assumption) ?_
    rotate_left
    · intro w_ hSw; (try dsimp only at hSw); obtain ⟨s0, s1, s2, s3, s4⟩ := hSw; (have q_ : w_.cell? ⟨w.heap.size, 0, none⟩ = some (.int .i64 kr) := s1.cell 0); go_simp <;> with_reducible rfl
    simp only [Act.put, List.setIfInBounds_toArray, List.set_cons_zero, List.set_cons_succ]
    refine wpAnyH_ready (rs := [9]) (by kernel_rfl) (by simp) ?_
    refine AllReadyH.cons (o := ⟨some 15, _, _, _, _, _⟩) rfl (fun K hK => ?_) AllReadyH.nil
    go_simp
    obtain ⟨s0, s1, s2, s3, s4⟩ := hHeld
    refine (oolext_any t a kr _ (HT.out _ s4) HLT.out).mono ?_
    rintro e_ v1 ⟨X1, x1_, rfl, hs1, hc1, hb1⟩
    have HS1 := Lib.hid hs1; have HC1 := Lib.hid hc1
    go_wp2_with fail
    refine hK.out _ _ ?_ (fun hHeld => ?_)
    · exact ⟨s0.under hb1 s0.lt, s1.under hb1 s1.lt, s2.under hb1 s2.lt, s3.under hb1 s3.lt, s4.trans (hb1.mono s4.size)⟩
    clear hK K s0 s1 s2 s3 s4
    try simp only [Act.put, List.setIfInBounds_toArray, List.set_cons_zero, List.set_cons_succ]
    refine wpAnyH_ready (rs := [10]) (by kernel_rfl) (by simp) ?_
    refine AllReadyH.cons (o := ⟨some 16, _, _, _, _, _⟩) rfl (fun K hK => ?_) AllReadyH.nil
    go_simp
    obtain ⟨s0, s1, s2, s3, s4⟩ := hHeld
    refine (osn_meets E (extL t kr) EA X1 m y _ x1_ _ (HE.out _ s4) HS1.out HMY.out.1 HC1.out HMY.out.2 (by have := ext_few HLT.out kr; omega)).mono ?_
    rw [HM.out]
    rintro e_ v2 ⟨rfl, hb2⟩
    go_wp2_with fail
    refine hK.out _ _ ?_ (fun hHeld => ?_)
    · exact ⟨s0.under hb2 s0.lt, s1.under hb2 s1.lt, s2.under hb2 s2.lt, s3.under hb2 s3.lt, s4.trans (hb2.mono s4.size)⟩
    clear hK K s0 s1 s2 s3 s4
    try simp only [Act.put, List.setIfInBounds_toArray, List.set_cons_zero, List.set_cons_succ]
    refine wpAnyH_take (i := 11) (oi := ⟨some 17, _, _, _, _, _⟩) (v := ?_) rfl (by kernel_rfl) (by kernel_rfl) (by kernel_rfl) (fun _ _ _ h => h) (Or.inl ⟨by rfl, ?_⟩) (by assumption) ?_
    rotate_left
    · intro w_ hSw; (try dsimp only at hSw); go_simp <;> with_reducible rfl
    simp only [Act.put, List.setIfInBounds_toArray, List.set_cons_zero, List.set_cons_succ]
    refine wpAnyH_take (i := 12) (oi := ⟨some 5, _, _, _, _, _⟩) (v := ?_) rfl (by kernel_rfl) (by kernel_rfl) (by kernel_rfl) (fun _ _ _ h => h) (Or.inl ⟨by rfl, ?_⟩) (by assumption) ?_
    rotate_left
    · intro w_ hSw; (try dsimp only at hSw); go_simp <;> with_reducible rfl
    simp only [Act.put, List.setIfInBounds_toArray, List.set_cons_zero, List.set_cons_succ]
    refine wpAnyH_done (by kernel_rfl) ?_ _
    have HB3 := Lib.hid hHeld.2.2.2.2
    clear hHeld
    go_wp2
    go_ret
    exact ⟨rfl, HBWA.out.trans (HB3.out.mono HBWA.out.size)⟩

set_option maxRecDepth 100000 in
set_option maxHeartbeats 8000000 in
theorem olmet_any (t : Tp3) (a : TpA) (l : List Lc3) (route train : Int) (A : Option Addr) (n c : Nat) (w : World) (ht : TopR w t a) (hl : lightT t = true) (hs : SlO lcC 3 w A n c l) (hn : n ≤ 1000) :
    Calls Try.prog 36 #[.agg (tpC t a), .slice A n c, .int .i64 route, .int .i64 train] w fun r w' => r = .returned (.bool (metB t l route train)) ∧ Below w.heap.size w w' := by
  obtain ⟨wa, hwa⟩ : ∃ wa, (w.alloc (.cells (tpC t a) 27)).alloc (.cells #[.int .i64 train] 3) = wa := ⟨_, rfl⟩
  have hbwa : Below w.heap.size w wa := by rw [← hwa]; exact ((Below.refl _ _).alloc (Nat.le_refl _) _).alloc (by simp) _
  have h0 : Has wa (w.heap.size) 27 (tpC t a) := by rw [← hwa]; exact ((Has.made _ _ _).beside _)
  have h1 : Has wa (w.heap.size + 1) 3 #[.int .i64 train] := by rw [← hwa]; exact (has_at11 (by simp))
  have HWA := Lib.hid hwa; have HBWA := Lib.hid hbwa
  have HT := Lib.hid (fun W (hW : Below w.heap.size w W) => ht.under hW)
  have H0 := Lib.hid (fun W (hW : Below wa.heap.size wa W) => h0.under hW h0.lt)
  have H1 := Lib.hid (fun W (hW : Below wa.heap.size wa W) => h1.under hW h1.lt)
  have HBA := Lib.hid (fun W (hW : Below wa.heap.size wa W) => hbwa.trans (hW.mono hbwa.size))
  have HLT := Lib.hid hl
  have HS := Lib.hid (fun W (hW : Below w.heap.size w W) => hs.under hW)
  have HNB := Lib.hid hn
  obtain ⟨R, hR⟩ : ∃ R, metB t l route train = R := ⟨_, rfl⟩
  have HR := Lib.hid hR
  rw [hR]
  clear hwa hbwa h0 h1 ht hl hs hR hn
  go_enter Try.func36, Try.ntmps36
  go_upto_region 1 with fail
  rw [HWA.out]
  clear HWA
  go_wp2_with (with_reducible refine wpList_load_row (o := ⟨some 10, _, _, _, _, _⟩) rfl 27 _ rfl (w.heap.size) rfl 27 (tpC t a) (0, 0) _ ((H0.out wa (Below.refl _ _))).raw11 Try.underlying27 rfl (by kernel_rfl) ?_)
  refine (oolext_any t a route wa (HT.out _ HBWA.out) HLT.out).mono ?_
  rintro e w2 ⟨X, x, rfl, hs2, hc2, hb2⟩
  obtain ⟨E, hE⟩ : ∃ E, extL t route = E := ⟨_, rfl⟩
  have HEK := Lib.hid (show E.length ≤ 4096 from by rw [← hE]; have := ext_few HLT.out route; omega)
  have HMK := Lib.hid (show (fun k : Lc3 => !(k.train == train) && meetsL E (extL t k.route)) = metK t route train from by rw [← hE]; rfl)
  rw [hE] at hs2 hc2
  simp only [hE]
  clear hE
  obtain ⟨m, hm⟩ : ∃ m, E.length = m := ⟨_, rfl⟩
  rw [hm] at hs2 hc2 HEK
  simp only [hm]
  clear hm
  have HS2 := Lib.hid hs2; have HC2 := Lib.hid hc2; have HB2 := Lib.hid hb2
  clear hs2 hc2 hb2
  go_upto_region 2 with fail
  obtain ⟨wb, hwb⟩ : ∃ wb, w2.alloc (.cells #[.slice X m x] 39) = wb := ⟨_, rfl⟩
  rw [hwb]
  have hbb : Below w2.heap.size w2 wb := by rw [← hwb]; exact (Below.refl _ _).alloc (Nat.le_refl _) _
  have hH : Has wb w2.heap.size 39 #[.slice X m x] := by rw [← hwb]; exact Has.made _ _ _
  have HBB := Lib.hid (HB2.out.trans (hbb.mono HB2.out.size))
  have HS3 := Lib.hid (HS2.out.under hbb)
  obtain ⟨ge, hge⟩ : ∃ g, w2.heap.size = g := ⟨_, rfl⟩
  simp only [hge] at hH ⊢
  have HG := Lib.hid hH
  clear hwb hbb hH hge HS2 HB2
  have H := Lib.hid (oct_lt (fun k => !(k.train == train) && meetsL E (extL t k.route)) l A n c (w.heap.size) (w.heap.size + 1) ge wb (HS.out _ (HBA.out _ HBB.out)) (by have := HNB.out; omega) (Lib.hid fun y W hW => olct_any t a y E train X m x (w.heap.size) (w.heap.size + 1) ge W (HT.out _ (HBA.out _ (HBB.out.trans (hW.mono HBB.out.size)))) HLT.out (H0.out _ (HBB.out.trans (hW.mono HBB.out.size))) (H1.out _ (HBB.out.trans (hW.mono HBB.out.size))) (HG.out.under hW HG.out.lt) (HS3.out.under hW) HC2.out HEK.out))
  rw [HMK.out] at H
  rw [show (l.any (metK t route train)) = R from HR.out] at H
  go_wp2_with fail
  refine H.out.mono ?_
  rintro e_ w3 ⟨rfl, hb3⟩
  have HB3 := Lib.hid (HBA.out _ (HBB.out.trans (hb3.mono HBB.out.size)))
  clear hb3 H
  go_wp2
  go_ret
  exact ⟨rfl, HB3.out⟩

set_option maxRecDepth 100000 in
set_option maxHeartbeats 8000000 in
theorem olref_any (t : Tp3) (a : TpA) (l : List Lc3) (route train : Int) (A : Option Addr) (n c : Nat) (w : World) (ht : TopR w t a) (hl : lightT t = true) (hs : SlO lcC 3 w A n c l) (hn : n ≤ 1000) :
    Calls Try.prog 18 #[.agg (tpC t a), .slice A n c, .int .i64 route, .int .i64 train] w fun r w' => r = .returned (.int .i64 (refE t l route train)) ∧ Below w.heap.size w w' := by
  obtain ⟨wa, hwa⟩ : ∃ wa, w.alloc (.cells (tpC t a) 27) = wa := ⟨_, rfl⟩
  have hbwa : Below w.heap.size w wa := by rw [← hwa]; exact (Below.refl _ _).alloc (Nat.le_refl _) _
  have h0 : Has wa (w.heap.size) 27 (tpC t a) := by rw [← hwa]; exact (Has.made _ _ _)
  have HWA := Lib.hid hwa; have HBWA := Lib.hid hbwa
  have HT := Lib.hid (fun W (hW : Below w.heap.size w W) => ht.under hW)
  have H0 := Lib.hid (fun W (hW : Below wa.heap.size wa W) => h0.under hW h0.lt)
  have HBA := Lib.hid (fun W (hW : Below wa.heap.size wa W) => hbwa.trans (hW.mono hbwa.size))
  have HLT := Lib.hid hl
  have HS := Lib.hid (fun W (hW : Below w.heap.size w W) => hs.under hW)
  have HNB := Lib.hid hn
  obtain ⟨R, hR⟩ : ∃ R, refE t l route train = R := ⟨_, rfl⟩
  have HR := Lib.hid hR
  rw [hR]
  clear hwa hbwa h0 ht hl hs hR hn
  go_enter Try.func18, Try.ntmps18
  go_upto_region 1 with fail
  rw [HWA.out]
  clear HWA
  go_wp2_with (with_reducible refine wpList_load_row (o := ⟨some 12, _, _, _, _, _⟩) rfl 27 _ rfl (w.heap.size) rfl 27 (tpC t a) (0, 0) _ ((H0.out wa (Below.refl _ _))).raw11 Try.underlying27 rfl (by kernel_rfl) ?_)
  refine (otp_routeF t a route wa (HT.out _ HBWA.out) HLT.out).mono ?_
  rintro e_ w2 ⟨PA, pc, _, _, rfl, hb2⟩
  have HB2 := Lib.hid hb2
  unfold rtA
  obtain ⟨b1, hb1⟩ : ∃ b, (routeF t route).isSome = b := ⟨_, rfl⟩
  rw [hb1]
  have HQ1 := Lib.hid hb1
  clear hb1 hb2
  generalize routeR t route = rr
  obtain ⟨ri, rp, rg, rt⟩ := rr
  dsimp only
  generalize rp.length = rn
  go_upto_region 2 with fail
  obtain ⟨wc, hwc⟩ : ∃ wc, w2.alloc (.cells #[.int .i64 ri, .slice PA rn pc, .int .i64 rg, .int .i64 rt] 61) = wc := ⟨_, rfl⟩
  rw [hwc]
  have HBC := Lib.hid (show Below wa.heap.size wa wc from by rw [← hwc]; exact HB2.out.alloc HB2.out.size _)
  clear hwc HB2
  by_cases z0 : train < 0
  · skip
    obtain rfl : R = 1 := by rw [← HR.out]; unfold refE; rw [if_pos (by unfold trainB; rw [decide_eq_false (by omega : ¬ 0 ≤ train)]; rfl)]
    go_wp2
    go_ret
    exact ⟨rfl, HBA.out _ HBC.out⟩
  by_cases z1 : 16777215 < train
  · skip
    obtain rfl : R = 1 := by rw [← HR.out]; unfold refE; rw [if_pos (by unfold trainB; rw [decide_eq_false (by omega : ¬ train ≤ 16777215), Bool.and_false])]
    go_wp2
    go_ret
    exact ⟨rfl, HBA.out _ HBC.out⟩
  have HR1 := Lib.hid (show refE t l route train = if (routeF t route).isSome = false then 4 else if thereB l route = true then 5 else if metB t l route train = true then 160 else 0 from by unfold refE; rw [if_neg (by unfold trainB; rw [decide_eq_true (by omega : 0 ≤ train), decide_eq_true (by omega : train ≤ 16777215)]; decide)])
  rw [HR.out, HQ1.out] at HR1
  clear HQ1
  cases b1 with
  | false =>
    obtain rfl : R = 4 := HR1.out
    clear HR HR1
    go_wp2
    go_ret
    exact ⟨rfl, HBA.out _ HBC.out⟩
  | true =>
    have HR2 := Lib.hid (HR1.out.trans (if_neg (by decide)))
    clear HR1
    obtain ⟨b2, hb2⟩ : ∃ b, thereB l route = b := ⟨_, rfl⟩
    rw [hb2] at HR2
    have HC2 := Lib.hid (olthere_any l route A n c wc (HS.out _ (HBA.out _ HBC.out)) HNB.out)
    rw [hb2] at HC2
    clear hb2
    go_wp2_with fail
    refine HC2.out.mono ?_
    rintro e_ w3 ⟨rfl, hb3⟩
    have HB3 := Lib.hid (HBC.out.trans (hb3.mono HBC.out.size))
    clear hb3 HC2 HBC
    cases b2 with
    | true =>
      obtain rfl : R = 5 := HR2.out
      clear HR HR2
      go_wp2
      go_ret
      exact ⟨rfl, HBA.out _ HB3.out⟩
    | false =>
      have HR3 := Lib.hid (HR2.out.trans (if_neg (by decide)))
      clear HR2
      obtain ⟨b3, hb4⟩ : ∃ b, metB t l route train = b := ⟨_, rfl⟩
      rw [hb4] at HR3
      have HC3 := Lib.hid (olmet_any t a l route train A n c w3 (HT.out _ (HBA.out _ HB3.out)) HLT.out (HS.out _ (HBA.out _ HB3.out)) HNB.out)
      rw [hb4] at HC3
      clear hb4
      go_wp2_with (with_reducible refine wpList_load_row (o := ⟨some 32, _, _, _, _, _⟩) rfl 27 _ rfl (w.heap.size) rfl 27 (tpC t a) (0, 0) _ ((H0.out w3 HB3.out)).raw11 Try.underlying27 rfl (by kernel_rfl) ?_)
      refine HC3.out.mono ?_
      rintro e_ w4 ⟨rfl, hb4⟩
      have HB4 := Lib.hid (HB3.out.trans (hb4.mono HB3.out.size))
      clear hb4 HC3 HB3
      cases b3 with
      | true =>
        obtain rfl : R = 160 := HR3.out
        clear HR HR3
        go_wp2
        go_ret
        exact ⟨rfl, HBA.out _ HB4.out⟩
      | false =>
        obtain rfl : R = 0 := HR3.out
        clear HR HR3
        go_wp2
        go_ret
        exact ⟨rfl, HBA.out _ HB4.out⟩

end Go.Proofs.Yteioefgckigbcaa

/-
  the landed lock: May, Set, Free, Locked.
-/
namespace Go.Proofs.Yteioefgckigbcaa

open Go.RowKit

open Go.Great

theorem take16o {α : Type} {f : α → List Value} {k : Nat} {w : World} {A : Option Addr} {n c : Nat} {l : List α} (h : SlO f k w A n c l) (hf : ∀ x, (f x).length = k) {i : Nat} (hi : i ≤ n) : SlO f k w A i c (l.take i) := by
  have hl := h.1
  refine ⟨by rw [List.length_take]; omega, ?_, fun e => ?_, fun ad e j u hu => ?_⟩
  · rw [flat_len hf, List.length_take]
    congr 1
    omega
  · obtain ⟨h1, h2⟩ := h.2.2.1 e
    exact ⟨by omega, h2⟩
  · refine h.2.2.2 ad e j u ?_
    have h1 : l.flatMap f = (l.take i).flatMap f ++ (l.drop i).flatMap f := by rw [← List.flatMap_append, List.take_append_drop]
    rw [h1, List.getElem?_append_left (List.getElem?_eq_some_iff.1 hu).1]
    exact hu
theorem may_stepo {t : Tp3} {next : Int} {l : List Lc3} {i : Nat} {k : Lc3} (h : l[i]? = some k) : mayGo t next (l.take i) (l.drop i) = (okK t next (l.take i) k && mayGo t next (l.take (i + 1)) (l.drop (i + 1))) := by
  obtain ⟨h1, e⟩ := List.getElem?_eq_some_iff.1 h
  rw [List.drop_eq_getElem_cons h1, e, mayGo, List.take_add_one, h]
  rfl
/-- The number that the next one must be greater than. -/
def LastP (ahead : List Lc3) (last : Int) : Prop := 0 ≤ last ∧ ∀ n, (decide (1 ≤ n) && lastB ahead n) = !decide (n ≤ last)
theorem last_nil : LastP [] 0 := ⟨Int.le_refl _, fun n => by
  unfold lastB
  show (decide (1 ≤ n) && true) = _
  rw [Bool.and_true, ← decide_not]
  congr 1
  rw [eq_iff_iff]
  omega⟩
theorem last_snoc {l : List Lc3} {i : Nat} {k : Lc3} (h : l[i]? = some k) (hk : 0 ≤ k.no) : LastP (l.take (i + 1)) k.no := ⟨hk, fun n => by
  rw [List.take_add_one, h]
  unfold lastB
  show (decide (1 ≤ n) && (match (l.take i ++ [k]).getLast? with | none => true | some p => decide (p.no < n))) = _
  rw [List.getLast?_concat]
  dsimp only
  rw [← Bool.decide_and, ← decide_not]
  congr 1
  rw [eq_iff_iff]
  omega⟩
theorem ok_eq {t : Tp3} {next last : Int} {ahead : List Lc3} {k : Lc3} (hl : LastP ahead last) : okK t next ahead k = (!decide (k.no ≤ last) && (!decide (next ≤ k.no) && decide (refE t ahead k.route k.train = 0))) := by
  rw [ref_zero, ← hl.2 k.no]
  unfold okK
  have e : decide (k.no < next) = !decide (next ≤ k.no) := by
    rw [← decide_not]
    congr 1
    rw [eq_iff_iff]
    omega
  rw [e]
  cases (routeF t k.route).isSome <;> cases trainB k.train <;> cases decide (1 ≤ k.no) <;> cases decide (next ≤ k.no) <;> cases lastB ahead k.no <;> cases thereB ahead k.route <;> cases metB t ahead k.route k.train <;> rfl
theorem results_rtto {P : Program} {fn : Func} {p u v : Tmp} {ty : TypeId} (h : fn.results = #[.cell p ty, .tmp u, .tmp v]) (tmps : Array Value) (w : World) (g : Nat) (t : TypeId) (cs : Array Value) (d : TypeDesc)
    (hp : tmps.getD p undef = .pointer (some ⟨g, 0, none⟩)) (hg : w.heap[g]? = some (.cells cs t (0, 0)))
    (hu : P.underlying ty = some d) (hd : (match d with | .struct _ | .array _ _ => true | _ => false) = true) (hi : (P.info? ty).map (·.size) = some cs.size) :
    (results fn tmps).run P w = .ok (.tuple #[.agg cs, tmps.getD u undef, tmps.getD v undef]) w := by
  have e : (results fn tmps).run P w = ((asAddr (tmps.getD p undef)).run P w).andThen fun a w₁ => ((loadVar ty a).run P w₁).andThen fun y w₂ => .ok (.tuple #[y, tmps.getD u undef, tmps.getD v undef]) w₂ := by
    simp only [results, h]
    simp [Sem.run_bind, Result.andThen]
  rw [e, hp]
  simp [asAddr, run_loadVar_row w g t ty cs (0, 0) d hg hu hd hi]
theorem set_ref {t : Tp3} {x : It3} {route train : Int} (hm : mayB t x = true) : setE t x route train = if refE t x.locks route train ≠ 0 then (zeroI, 0, refE t x.locks route train) else if x.locks.length = 24 ∨ x.next = 1099511627776 then (zeroI, 0, 3) else (⟨x.locks ++ [⟨route, train, x.next⟩], x.next + 1⟩, x.next, 0) := by
  unfold setE refE
  rw [hm, Bool.true_and]
  cases trainB train <;> cases (routeF t route).isSome <;> cases thereB x.locks route <;> cases metB t x.locks route train <;> first | rfl | simp
/-! What a train's routes go over, taken in the track's order. -/
def onesE (t : Tp3) (O : List Lc3) (rs : List Rt3) : List Sn3 := rs.flatMap fun r => if thereB O r.id = true then extL t r.id else []
theorem ones_step {t : Tp3} {O : List Lc3} {rs : List Rt3} {i : Nat} {r : Rt3} (h : rs[i]? = some r) : onesE t O (rs.take (i + 1)) = onesE t O (rs.take i) ++ if thereB O r.id = true then extL t r.id else [] := by
  unfold onesE
  rw [List.take_add_one, h, List.flatMap_append]
  simp
theorem flat_has {α : Type} (f : α → List Sn3) (l : List α) (e x : Int) : hasL (l.flatMap f) e x = l.any fun a => hasL (f a) e x := by
  induction l with
  | nil => rfl
  | cons a r ih => rw [List.flatMap_cons, hasL_app, ih]; rfl
theorem ones_norm (t : Tp3) (O : List Lc3) : normL (onesE t O t.routes) = normL (O.flatMap fun k => extL t k.route) := by
  refine norm_of (norm_normal _) fun e x => ?_
  rw [norm_has, flat_has]
  unfold onesE
  rw [flat_has, Bool.eq_iff_iff, List.any_eq_true, List.any_eq_true]
  constructor
  · rintro ⟨k, hk, hx⟩
    cases hq : routeF t k.route with
    | none => rw [ext_no hq] at hx; cases hx
    | some r =>
      have hid : r.id = k.route := by
        have h1 := List.find?_some hq
        simpa using h1
      refine ⟨r, route_mem16 hq, ?_⟩
      rw [if_pos (by unfold thereB; rw [List.any_eq_true]; exact ⟨k, hk, by rw [hid]; simp⟩), hid]
      exact hx
  · rintro ⟨r, hr, hx⟩
    split at hx
    · rename_i h1
      unfold thereB at h1
      rw [List.any_eq_true] at h1
      obtain ⟨k, hk, he⟩ := h1
      refine ⟨k, hk, ?_⟩
      rw [show k.route = r.id by simpa using he]
      exact hx
    · cases hx

set_option maxRecDepth 100000 in
set_option maxHeartbeats 20000000 in
theorem olc_may (t : Tp3) (a : TpA) (l : List Lc3) (next : Int) (A : Option Addr) (n c : Nat) (w : World) (ht : TopR w t a) (hl : lightT t = true) (hcj : t.joints.length ≤ a.cj) (hs : SlO lcC 3 w A n c l) (hc : n ≤ c) (hn : n ≤ 1000) : Calls Try.prog 7 #[.agg (tpC t a), .agg #[.slice A n c, .int .i64 next]] w fun r w' => r = .returned (.bool (mayB t ⟨l, next⟩)) ∧ Below w.heap.size w w' := by
  obtain ⟨wa, hwa⟩ : ∃ wa, (w.alloc (.cells (tpC t a) 27)).alloc (.cells #[.slice A n c, .int .i64 next] 34) = wa := ⟨_, rfl⟩
  have hbwa : Below w.heap.size w wa := by rw [← hwa]; exact ((Below.refl _ _).alloc (Nat.le_refl _) _).alloc (by simp) _
  have h0 : Has wa (w.heap.size) 27 (tpC t a) := by rw [← hwa]; exact ((Has.made _ _ _).beside _)
  have h1 : Has wa (w.heap.size + 1) 34 #[.slice A n c, .int .i64 next] := by rw [← hwa]; exact (has_at11 (by simp))
  have HWA := Lib.hid hwa; have HBWA := Lib.hid hbwa
  have HT := Lib.hid (fun W (hW : Below w.heap.size w W) => ht.under hW)
  have H0 := Lib.hid (fun W (hW : Below wa.heap.size wa W) => h0.under hW h0.lt)
  have H1 := Lib.hid (fun W (hW : Below wa.heap.size wa W) => h1.under hW h1.lt)
  have HBA := Lib.hid (fun W (hW : Below wa.heap.size wa W) => hbwa.trans (hW.mono hbwa.size))
  have HLT := Lib.hid hl
  have HS := Lib.hid (fun W (hW : Below w.heap.size w W) => hs.under hW)
  have HL := Lib.hid hs.1
  have HCJ := Lib.hid hcj
  have HCC := Lib.hid hc
  obtain ⟨R, hR⟩ : ∃ R, mayB t ⟨l, next⟩ = R := ⟨_, rfl⟩
  have HR : Hid (R = (decide (checkE t = 0) && (decide (l.length ≤ 24) && (decide (1 ≤ next) && (decide (next ≤ 1099511627776) && mayGo t next [] l))))) := Lib.hid (by rw [← hR]; rfl)
  rw [hR]
  have HNN := Lib.hid (light_nums13 hl)
  clear hwa hbwa h0 h1 ht hl hs hR hcj hc
  go_enter Try.func7, Try.ntmps7
  go_upto_region 1 with fail
  rw [HWA.out]
  clear HWA
  go_wp2_with (with_reducible refine wpList_load_row (o := ⟨some 8, _, _, _, _, _⟩) rfl 27 _ rfl (w.heap.size) rfl 27 (tpC t a) (0, 0) _ ((H0.out wa (Below.refl _ _))).raw11 Try.underlying27 rfl (by kernel_rfl) ?_)
  refine (otp_check t a wa (HT.out _ HBWA.out) HLT.out HCJ.out).mono ?_
  rintro e w1 ⟨rfl, hb1⟩
  have HB1 := Lib.hid hb1
  have b0 : w1.cell? ⟨w.heap.size + 1, 0, none⟩ = some (.slice A n c) := (H1.out w1 hb1).cell 0
  have b1 : w1.cell? ⟨w.heap.size + 1, 1, none⟩ = some (.int .i64 next) := (H1.out w1 hb1).cell 1
  clear hb1
  by_cases z0 : checkE t = 0
  rotate_left
  · have q0 : (checkE t != 0) = true := by simp [z0]
    have HF : Hid (R = false) := Lib.hid (by rw [HR.out]; rw [decide_eq_false z0]; rfl)
    go_wp2
    go_ret
    exact ⟨by rw [HF.out]; rfl, HBA.out _ HB1.out⟩
  have HZ := Lib.hid z0
  rw [z0]
  rw [z0] at HR
  clear z0
  by_cases z1 : n ≤ 24
  rotate_left
  · have z1' : (24 : Int) < n := by omega
    have HF : Hid (R = false) := Lib.hid (by rw [HR.out]; rw [decide_eq_false (by have := HL.out; omega : ¬ l.length ≤ 24)]; rfl)
    go_wp2
    go_ret
    exact ⟨by rw [HF.out]; rfl, HBA.out _ HB1.out⟩
  have z1' : ¬ (24 : Int) < n := by omega
  by_cases z2 : 1 ≤ next
  rotate_left
  · have z2' : next < 1 := by omega
    have HF : Hid (R = false) := Lib.hid (by rw [HR.out]; rw [decide_eq_true (by have := HL.out; omega : l.length ≤ 24), decide_eq_false z2]; rfl)
    go_wp2
    go_ret
    exact ⟨by rw [HF.out]; rfl, HBA.out _ HB1.out⟩
  have z2' : ¬ next < 1 := by omega
  by_cases z3 : next ≤ 1099511627776
  rotate_left
  · have z3' : 1099511627776 < next := by omega
    have HF : Hid (R = false) := Lib.hid (by rw [HR.out]; rw [decide_eq_true (by have := HL.out; omega : l.length ≤ 24), decide_eq_true z2, decide_eq_false z3]; rfl)
    go_wp2
    go_ret
    exact ⟨by rw [HF.out]; rfl, HBA.out _ HB1.out⟩
  have z3' : ¬ 1099511627776 < next := by omega
  have HR2 := Lib.hid (show mayGo t next [] l = R from by have h_ := HR.out; rw [decide_eq_true (by have := HL.out; omega : l.length ≤ 24), decide_eq_true z2, decide_eq_true z3] at h_; rw [h_]; rfl)
  clear HR
  have HN24 := Lib.hid z1
  have hx0 : (0 : Int) ≤ n := by omega
  go_wp2
  clear z1 z1' z2 z2' z3 z3' b0 b1
  go_loopg [5, 30] n (fun kk v5 v30 wl => ∃ (i : Nat) (last : Int), i ≤ n ∧ n - i ≤ kk ∧ v30 = .int .i64 i ∧ v5 = .int .i64 last ∧ Hid (LastP (l.take i) last) ∧ Hid (mayGo t next (l.take i) (l.drop i) = R) ∧ Hid (Below w1.heap.size w1 wl))
  case atStart => exact ⟨0, 0, by omega, by omega, rfl, rfl, Lib.hid last_nil, HR2, Lib.hid (Below.refl _ _)⟩
  case round =>
    obtain ⟨i, last, hi, hik, rfl, rfl, HLP, HM, HB⟩ := hrel
    obtain ⟨k1, hk1⟩ : ∃ k1, k1 = gk := ⟨_, rfl⟩
    subst hk1
    obtain ⟨wv, hwv⟩ : ∃ wv, wv = wr := ⟨_, rfl⟩
    subst hwv
    clear HR2
    have HX := Lib.hid (fun W (hW : Below wv.heap.size wv W) => (show Below wa.heap.size wa W from HB1.out.trans ((HB.out.trans (hW.mono HB.out.size)).mono HB1.out.size)))
    by_cases hlt : i < n
    rotate_left
    · obtain rfl : i = n := by omega
      have x1 : ¬ (i : Int) < i := by omega
      have HF : Hid (R = true) := Lib.hid (by rw [← HM.out, List.drop_of_length_le (by rw [HL.out]; exact Nat.le_refl _)]; rfl)
      clear hik hlt
      go_wp2
      go_ret
      exact ⟨by rw [HF.out]; rfl, HBA.out _ (HX.out _ (Below.refl _ _))⟩
    obtain ⟨s, hs⟩ : ∃ s, l[i]? = some s := ⟨_, List.getElem?_eq_getElem (by rw [HL.out]; exact hlt)⟩
    have HXS := Lib.hid hs
    have HMS := Lib.hid (by have h_ := (may_stepo (t := t) (next := next) hs).symm.trans HM.out; rw [ok_eq HLP.out] at h_; exact h_)
    obtain ⟨bk, off, rfl, hc⟩ := (HS.out w (Below.refl _ _)).locks hs
    obtain ⟨d0, d1, d2⟩ := hc wv (HBA.out _ (HX.out _ (Below.refl _ _)))
    clear hs hc HM
    obtain ⟨kr, kt, kn⟩ := s
    dsimp only at *
    have x1 : (i : Int) < n := by omega
    have x2 : (0 : Int) ≤ i := by omega
    have HIN := Lib.hid (show i < n ∧ n - i ≤ k1 from ⟨hlt, hik⟩)
    go_upto_region 7 with fail
    obtain ⟨wb, hwb⟩ : ∃ wb, wv.alloc (.cells #[.int .i64 kr, .int .i64 kt, .int .i64 kn] 50) = wb := ⟨_, rfl⟩
    rw [hwb]
    have hbb : Below wv.heap.size wv wb := by rw [← hwb]; exact (Below.refl _ _).alloc (Nat.le_refl _) _
    have hH : Has wb wv.heap.size 50 #[.int .i64 kr, .int .i64 kt, .int .i64 kn] := by rw [← hwb]; exact Has.made _ _ _
    obtain ⟨gl, hgl⟩ : ∃ g, wv.heap.size = g := ⟨_, rfl⟩
    have HBB := Lib.hid hbb
    have HG := Lib.hid (fun W (hW : Below wb.heap.size wb W) => hH.under hW hH.lt)
    simp only [hgl] at HG ⊢
    have HXB := Lib.hid (fun W (hW : Below wb.heap.size wb W) => HX.out W (HBB.out.trans (hW.mono HBB.out.size)))
    have HWB := Lib.hid (fun W (hW : Below wb.heap.size wb W) => HB.out.trans ((HBB.out.trans (hW.mono HBB.out.size)).mono HB.out.size))
    have e0 : wb.cell? ⟨gl, 0, none⟩ = some (.int .i64 kr) := (HG.out wb (Below.refl _ _)).cell 0
    have e2 : wb.cell? ⟨gl, 2, none⟩ = some (.int .i64 kn) := (HG.out wb (Below.refl _ _)).cell 2
    have f0 : wb.cell? ⟨w.heap.size + 1, 0, none⟩ = some (.slice (some ⟨bk, off, none⟩) n c) := (H1.out wb (HXB.out wb (Below.refl _ _))).cell 0
    have f1 : wb.cell? ⟨w.heap.size + 1, 1, none⟩ = some (.int .i64 next) := (H1.out wb (HXB.out wb (Below.refl _ _))).cell 1
    clear hwb hbb hH hgl d0 d1 d2 x1 x2 hlt hi hik
    by_cases y1 : kn ≤ last
    · have y1' : decide (kn ≤ last) = true := decide_eq_true y1
      have HF : Hid (R = false) := Lib.hid (by rw [← HMS.out, y1']; rfl)
      go_quiet (fail)
      go_wp2
      go_ret
      exact ⟨by rw [HF.out]; rfl, HBA.out _ (HXB.out _ (below_draws (Below.refl _ _) _))⟩
    have y1' : decide (kn ≤ last) = false := decide_eq_false y1
    by_cases y2 : next ≤ kn
    · have y2' : decide (next ≤ kn) = true := decide_eq_true y2
      have HF : Hid (R = false) := Lib.hid (by rw [← HMS.out, y1', y2']; rfl)
      go_quiet (fail)
      go_wp2
      go_ret
      exact ⟨by rw [HF.out]; rfl, HBA.out _ (HXB.out _ (below_draws (Below.refl _ _) _))⟩
    have y2' : decide (next ≤ kn) = false := decide_eq_false y2
    have HOK : Hid ((decide (refE t (l.take i) kr kt = 0) && mayGo t next (l.take (i + 1)) (l.drop (i + 1))) = R) := Lib.hid (by rw [← HMS.out, y1', y2']; rfl)
    have HLN := Lib.hid (last_snoc HXS.out (show 0 ≤ (Lc3.mk kr kt kn).no from by have := HLP.out.1; show 0 ≤ kn; omega))
    obtain ⟨E, hE⟩ : ∃ E, refE t (l.take i) kr kt = E := ⟨_, rfl⟩
    rw [hE] at HOK
    have HE := Lib.hid hE
    clear hE HMS HXS y1 y2
    have y8 : (i : Int) ≤ c := by have h1_ := HIN.out; have h2_ := HCC.out; omega
    have y9 : ¬ (c : Int) < i := by omega
    refine wp_region_held_drew (S := (fun W_ => (Has W_ (w.heap.size) 27 (tpC t a)) ∧ (Has W_ (w.heap.size + 1) 34 #[.slice (some ⟨bk, off, none⟩) n c, .int .i64 next]) ∧ (Has W_ gl 50 #[.int .i64 kr, .int .i64 kt, .int .i64 kn]) ∧ (Below wb.heap.size wb W_))) (by kernel_rfl) ?_ (fun hHeld => ?_)
    · exact ⟨(H0.out _ (HXB.out _ (Below.refl _ _))).draw, (H1.out _ (HXB.out _ (Below.refl _ _))).draw, (HG.out _ (Below.refl _ _)).draw, below_dr11 (Below.refl _ _)⟩
    refine wpAnyH_take (i := 0) (oi := ⟨some 35, _, _, _, _, _⟩) (v := ?_) rfl (by kernel_rfl) (by kernel_rfl) (by kernel_rfl) (fun _ _ _ h => h) (Or.inl ⟨by rfl, ?_⟩) (by assumption) ?_
    rotate_left
    · intro w_ hSw; (try dsimp only at hSw); go_simp <;> with_reducible rfl
    simp only [Act.put, List.setIfInBounds_toArray, List.set_cons_zero, List.set_cons_succ]
    refine wpAnyH_take (i := 1) (oi := ⟨some 36, _, _, _, _, _⟩) (v := ?_) rfl (by kernel_rfl) (by kernel_rfl) (by kernel_rfl) (fun _ _ _ h => h) (Or.inl ⟨by rfl, ?_⟩) (by assumption) ?_
    rotate_left
    · intro w_ hSw; (try dsimp only at hSw); obtain ⟨s0, s1, s2, s3⟩ := hSw; (have q_ : w_.cell? ⟨gl, 2, none⟩ = some (.int .i64 kn) := s2.cell 2); go_simp <;> with_reducible rfl
    simp only [Act.put, List.setIfInBounds_toArray, List.set_cons_zero, List.set_cons_succ]
    refine wpAnyH_take (i := 2) (oi := ⟨some 37, _, _, _, _, _⟩) (v := ?_) rfl (by kernel_rfl) (by kernel_rfl) (by kernel_rfl) (fun _ _ _ h => h) (Or.inl ⟨by rfl, ?_⟩) (by assumption) ?_
    rotate_left
    · intro w_ hSw; (try dsimp only at hSw); go_simp <;> with_reducible rfl
    simp only [Act.put, List.setIfInBounds_toArray, List.set_cons_zero, List.set_cons_succ]
    refine wpAnyH_take (i := 3) (oi := ⟨some 38, _, _, _, _, _⟩) (v := ?_) rfl (by kernel_rfl) (by kernel_rfl) (by kernel_rfl) (fun _ _ _ h => h) (Or.inl ⟨by rfl, ?_⟩) (by assumption) ?_
    rotate_left
    · intro w_ hSw; (try dsimp only at hSw); go_simp <;> with_reducible rfl
    simp only [Act.put, List.setIfInBounds_toArray, List.set_cons_zero, List.set_cons_succ]
    refine wpAnyH_take (i := 4) (oi := ⟨some 39, _, _, _, _, _⟩) (v := ?_) rfl (by kernel_rfl) (by kernel_rfl) (by kernel_rfl) (fun _ _ _ h => h) (Or.inl ⟨by rfl, ?_⟩) (by assumption) ?_
    rotate_left
    · intro w_ hSw; (try dsimp only at hSw); go_simp <;> with_reducible rfl
    simp only [Act.put, List.setIfInBounds_toArray, List.set_cons_zero, List.set_cons_succ]
    refine wpAnyH_take (i := 5) (oi := ⟨some 40, _, _, _, _, _⟩) (v := ?_) rfl (by kernel_rfl) (by kernel_rfl) (by kernel_rfl) (fun _ _ _ h => h) (Or.inl ⟨by rfl, ?_⟩) (by assumption) ?_
    rotate_left
    · intro w_ hSw; (try dsimp only at hSw); go_simp <;> with_reducible rfl
    simp only [Act.put, List.setIfInBounds_toArray, List.set_cons_zero, List.set_cons_succ]
    refine wpAnyH_take (i := 6) (oi := ⟨some 41, _, _, _, _, _⟩) (v := ?_) rfl (by kernel_rfl) (by kernel_rfl) (by kernel_rfl) (fun _ _ _ h => h) (Or.inl ⟨by rfl, ?_⟩) (by assumption) ?_
    rotate_left
    · intro w_ hSw; (try dsimp only at hSw); obtain ⟨s0, s1, s2, s3⟩ := hSw; (have q_ : w_.cell? ⟨gl, 2, none⟩ = some (.int .i64 kn) := s2.cell 2); go_simp <;> with_reducible rfl
    simp only [Act.put, List.setIfInBounds_toArray, List.set_cons_zero, List.set_cons_succ]
    refine wpAnyH_take (i := 7) (oi := ⟨some 42, _, _, _, _, _⟩) (v := ?_) rfl (by kernel_rfl) (by kernel_rfl) (by kernel_rfl) (fun _ _ _ h => h) (Or.inl ⟨by rfl, ?_⟩) (by assumption) ?_
    rotate_left
    · intro w_ hSw; (try dsimp only at hSw); go_simp <;> with_reducible rfl
    simp only [Act.put, List.setIfInBounds_toArray, List.set_cons_zero, List.set_cons_succ]
    refine wpAnyH_take (i := 8) (oi := ⟨some 43, _, _, _, _, _⟩) (v := ?_) rfl (by kernel_rfl) (by kernel_rfl) (by kernel_rfl) (fun _ _ _ h => h) (Or.inl ⟨by rfl, ?_⟩) (by assumption) ?_
    rotate_left
    · intro w_ hSw; (try dsimp only at hSw); obtain ⟨s0, s1, s2, s3⟩ := hSw; (have q_ : w_.cell? ⟨w.heap.size + 1, 1, none⟩ = some (.int .i64 next) := s1.cell 1); go_simp <;> with_reducible rfl
    simp only [Act.put, List.setIfInBounds_toArray, List.set_cons_zero, List.set_cons_succ]
    refine wpAnyH_take (i := 9) (oi := ⟨some 44, _, _, _, _, _⟩) (v := ?_) rfl (by kernel_rfl) (by kernel_rfl) (by kernel_rfl) (fun _ _ _ h => h) (Or.inl ⟨by rfl, ?_⟩) (by assumption) ?_
    rotate_left
    · intro w_ hSw; (try dsimp only at hSw); go_simp <;> with_reducible rfl
    simp only [Act.put, List.setIfInBounds_toArray, List.set_cons_zero, List.set_cons_succ]
    refine wpAnyH_take (i := 10) (oi := ⟨some 45, _, _, _, _, _⟩) (v := ?_) rfl (by kernel_rfl) (by kernel_rfl) (by kernel_rfl) (fun _ _ _ h => h) (Or.inl ⟨by rfl, ?_⟩) (by assumption) ?_
    rotate_left
    · intro w_ hSw; (try dsimp only at hSw); go_simp <;> with_reducible rfl
    simp only [Act.put, List.setIfInBounds_toArray, List.set_cons_zero, List.set_cons_succ]
    refine wpAnyH_take (i := 11) (oi := ⟨some 46, _, _, _, _, _⟩) (v := ?_) rfl (by kernel_rfl) (by kernel_rfl) (by kernel_rfl) (fun _ _ _ h => h) (Or.inl ⟨by rfl, ?_⟩) (by assumption) ?_
    rotate_left
    · intro w_ hSw; (try dsimp only at hSw); go_simp <;> with_reducible rfl
    simp only [Act.put, List.setIfInBounds_toArray, List.set_cons_zero, List.set_cons_succ]
    refine wpAnyH_take (i := 12) (oi := ⟨some 47, _, _, _, _, _⟩) (v := .agg (tpC t a)) rfl (by kernel_rfl) (by kernel_rfl) (by kernel_rfl) (fun _ _ _ h => h) (yields_load_row11 27 _ rfl (w.heap.size) rfl 27 (tpC t a) _ (fun _ ⟨h_, _, _, _⟩ => h_) Try.underlying27 rfl (by kernel_rfl) (by rfl)) (by assumption) ?_
    simp only [Act.put, List.setIfInBounds_toArray, List.set_cons_zero, List.set_cons_succ]
    refine wpAnyH_take (i := 13) (oi := ⟨some 48, _, _, _, _, _⟩) (v := ?_) rfl (by kernel_rfl) (by kernel_rfl) (by kernel_rfl) (fun _ _ _ h => h) (Or.inl ⟨by rfl, ?_⟩) (by assumption) ?_
    rotate_left
    · intro w_ hSw; (try dsimp only at hSw); go_simp <;> with_reducible rfl
    simp only [Act.put, List.setIfInBounds_toArray, List.set_cons_zero, List.set_cons_succ]
    refine wpAnyH_take (i := 14) (oi := ⟨some 49, _, _, _, _, _⟩) (v := ?_) rfl (by kernel_rfl) (by kernel_rfl) (by kernel_rfl) (fun _ _ _ h => h) (Or.inl ⟨by rfl, ?_⟩) (by assumption) ?_
    rotate_left
    · intro w_ hSw; (try dsimp only at hSw); obtain ⟨s0, s1, s2, s3⟩ := hSw; (have q_ : w_.cell? ⟨w.heap.size + 1, 0, none⟩ = some (.slice (some ⟨bk, off, none⟩) n c) := s1.cell 0); go_simp <;> with_reducible rfl
    simp only [Act.put, List.setIfInBounds_toArray, List.set_cons_zero, List.set_cons_succ]
    refine wpAnyH_take (i := 15) (oi := ⟨some 50, _, _, _, _, _⟩) (v := ?_) rfl (by kernel_rfl) (by kernel_rfl) (by kernel_rfl) (fun _ _ _ h => h) (Or.inl ⟨by rfl, ?_⟩) (by assumption) ?_
    rotate_left
    · intro w_ hSw; (try dsimp only at hSw); go_simp <;> with_reducible rfl
    simp only [Act.put, List.setIfInBounds_toArray, List.set_cons_zero, List.set_cons_succ]
    refine wpAnyH_take (i := 16) (oi := ⟨some 51, _, _, _, _, _⟩) (v := ?_) rfl (by kernel_rfl) (by kernel_rfl) (by kernel_rfl) (fun _ _ _ h => h) (Or.inl ⟨by rfl, ?_⟩) (by assumption) ?_
    rotate_left
    · intro w_ hSw; (try dsimp only at hSw); go_simp <;> with_reducible rfl
    simp only [Act.put, List.setIfInBounds_toArray, List.set_cons_zero, List.set_cons_succ]
    refine wpAnyH_take (i := 17) (oi := ⟨some 52, _, _, _, _, _⟩) (v := ?_) rfl (by kernel_rfl) (by kernel_rfl) (by kernel_rfl) (fun _ _ _ h => h) (Or.inl ⟨by rfl, ?_⟩) (by assumption) ?_
    rotate_left
    · intro w_ hSw; (try dsimp only at hSw); go_simp <;> with_reducible rfl
    simp only [Act.put, List.setIfInBounds_toArray, List.set_cons_zero, List.set_cons_succ]
    refine wpAnyH_take (i := 18) (oi := ⟨some 53, _, _, _, _, _⟩) (v := ?_) rfl (by kernel_rfl) (by kernel_rfl) (by kernel_rfl) (fun _ _ _ h => h) (Or.inl ⟨by rfl, ?_⟩) (by assumption) ?_
    rotate_left
    · intro w_ hSw; (try dsimp only at hSw); obtain ⟨s0, s1, s2, s3⟩ := hSw; (have q_ : w_.cell? ⟨gl, 0, none⟩ = some (.int .i64 kr) := s2.cell 0); go_simp <;> with_reducible rfl
    simp only [Act.put, List.setIfInBounds_toArray, List.set_cons_zero, List.set_cons_succ]
    refine wpAnyH_take (i := 19) (oi := ⟨some 54, _, _, _, _, _⟩) (v := ?_) rfl (by kernel_rfl) (by kernel_rfl) (by kernel_rfl) (fun _ _ _ h => h) (Or.inl ⟨by rfl, ?_⟩) (by assumption) ?_
    rotate_left
    · intro w_ hSw; (try dsimp only at hSw); go_simp <;> with_reducible rfl
    simp only [Act.put, List.setIfInBounds_toArray, List.set_cons_zero, List.set_cons_succ]
    refine wpAnyH_take (i := 20) (oi := ⟨some 55, _, _, _, _, _⟩) (v := ?_) rfl (by kernel_rfl) (by kernel_rfl) (by kernel_rfl) (fun _ _ _ h => h) (Or.inl ⟨by rfl, ?_⟩) (by assumption) ?_
    rotate_left
    · intro w_ hSw; (try dsimp only at hSw); obtain ⟨s0, s1, s2, s3⟩ := hSw; (have q_ : w_.cell? ⟨gl, 1, none⟩ = some (.int .i64 kt) := s2.cell 1); go_simp <;> with_reducible rfl
    simp only [Act.put, List.setIfInBounds_toArray, List.set_cons_zero, List.set_cons_succ]
    refine wpAnyH_ready (rs := [21]) (by kernel_rfl) (by simp) ?_
    refine AllReadyH.cons (o := ⟨some 56, _, _, _, _, _⟩) rfl (fun K hK => ?_) AllReadyH.nil
    go_simp
    obtain ⟨s0, s1, s2, s3⟩ := hHeld
    refine (olref_any t a (l.take i) kr kt _ i c _ (HT.out _ (HBA.out _ (HXB.out _ s3))) HLT.out (take16o (HS.out _ (HBA.out _ (HXB.out _ s3))) (fun _ => rfl) (by have := HIN.out; omega)) (by have h1_ := HIN.out; have h2_ := HN24.out; omega)).mono ?_
    rw [HE.out]
    rintro e_ v2 ⟨rfl, hb2⟩
    go_wp2_with fail
    refine hK.out _ _ ?_ (fun hHeld => ?_)
    · exact ⟨s0.under hb2 s0.lt, s1.under hb2 s1.lt, s2.under hb2 s2.lt, s3.trans (hb2.mono s3.size)⟩
    clear hK K s0 s1 s2 s3
    try simp only [Act.put, List.setIfInBounds_toArray, List.set_cons_zero, List.set_cons_succ]
    refine wpAnyH_take (i := 22) (oi := ⟨some 57, _, _, _, _, _⟩) (v := ?_) rfl (by kernel_rfl) (by kernel_rfl) (by kernel_rfl) (fun _ _ _ h => h) (Or.inl ⟨by rfl, ?_⟩) (by assumption) ?_
    rotate_left
    · intro w_ hSw; (try dsimp only at hSw); go_simp <;> with_reducible rfl
    simp only [Act.put, List.setIfInBounds_toArray, List.set_cons_zero, List.set_cons_succ]
    refine wpAnyH_take (i := 23) (oi := ⟨some 58, _, _, _, _, _⟩) (v := ?_) rfl (by kernel_rfl) (by kernel_rfl) (by kernel_rfl) (fun _ _ _ h => h) (Or.inl ⟨by rfl, ?_⟩) (by assumption) ?_
    rotate_left
    · intro w_ hSw; (try dsimp only at hSw); go_simp <;> with_reducible rfl
    simp only [Act.put, List.setIfInBounds_toArray, List.set_cons_zero, List.set_cons_succ]
    refine wpAnyH_done (by kernel_rfl) ?_ _
    have HH := Lib.hid hHeld
    clear hHeld y8 y9 e0 e2 f0 f1 y1' y2'
    obtain ⟨wq, hwq⟩ : ∃ wq, wq = v2 := ⟨_, rfl⟩
    subst hwq
    by_cases u0 : E = 0
    rotate_left
    · have u1 : (E != 0) = true := by simp [u0]
      have HF : Hid (R = false) := Lib.hid (by rw [← HOK.out, decide_eq_false u0]; rfl)
      have HQ := Lib.hid HH.out.2.2.2
      clear HH
      go_wp2
      go_ret
      exact ⟨by rw [HF.out]; rfl, HBA.out _ (HXB.out _ HQ.out)⟩
    subst u0
    have HM2 : Hid (mayGo t next (l.take (i + 1)) (l.drop (i + 1)) = R) := Lib.hid (by rw [← HOK.out, decide_eq_true rfl, Bool.true_and])
    have HQ := Lib.hid HH.out.2.2.2
    have g2 : wq.cell? ⟨gl, 2, none⟩ = some (.int .i64 kn) := HH.out.2.2.1.cell 2
    clear HH HOK HE
    go_wp2
    go_roundg (k1 - 1)
    case measure => have := HIN.out; omega
    case rel => exact ⟨i + 1, kn, by have := HIN.out; omega, by have := HIN.out; omega, by rw [IntWalk.wrap64_in _ (by have h1_ := HIN.out; have h2_ := HN24.out; omega)]; go_num, rfl, HLN, HM2, Lib.hid (HWB.out _ HQ.out)⟩

set_option maxRecDepth 100000 in
set_option maxHeartbeats 20000000 in
theorem olc_set (t : Tp3) (a : TpA) (l : List Lc3) (next : Int) (A : Option Addr) (n c : Nat) (w : World) (route train : Int) (ht : TopR w t a) (hl : lightT t = true) (hcj : t.joints.length ≤ a.cj) (hs : SlO lcC 3 w A n c l) (hc : n ≤ c) (hn : n ≤ 1000) : Calls Try.prog 12 #[.agg (tpC t a), .agg #[.slice A n c, .int .i64 next], .int .i64 route, .int .i64 train] w fun r w' => ∃ X k x, r = .returned (.tuple #[.agg #[.slice X k x, .int .i64 (setE t ⟨l, next⟩ route train).1.next], .int .i64 (setE t ⟨l, next⟩ route train).2.1, .int .i64 (setE t ⟨l, next⟩ route train).2.2]) ∧ LkT w' X k x (setE t ⟨l, next⟩ route train).1.locks ∧ Below w.heap.size w w' := by
  obtain ⟨wa, hwa⟩ : ∃ wa, ((w.alloc (.cells (tpC t a) 27)).alloc (.cells #[.slice A n c, .int .i64 next] 34)).alloc (.cells #[.slice none 0 0, .int .i64 0] 34) = wa := ⟨_, rfl⟩
  have hbwa : Below w.heap.size w wa := by rw [← hwa]; exact (((Below.refl _ _).alloc (Nat.le_refl _) _).alloc (by simp) _).alloc (by simp; omega) _
  have h0 : Has wa (w.heap.size) 27 (tpC t a) := by rw [← hwa]; exact (((Has.made _ _ _).beside _).beside _)
  have h1 : Has wa (w.heap.size + 1) 34 #[.slice A n c, .int .i64 next] := by rw [← hwa]; exact ((has_at11 (by simp)).beside _)
  have h2 : Has wa (w.heap.size + 1 + 1) 34 #[.slice none 0 0, .int .i64 0] := by rw [← hwa]; exact (has_at11 (by simp))
  have HWA := Lib.hid hwa; have HBWA := Lib.hid hbwa
  have HT := Lib.hid (fun W (hW : Below w.heap.size w W) => ht.under hW)
  have H0 := Lib.hid (fun W (hW : Below wa.heap.size wa W) => h0.under hW h0.lt)
  have H1 := Lib.hid (fun W (hW : Below wa.heap.size wa W) => h1.under hW h1.lt)
  have H2 := Lib.hid (fun W (hW : Below wa.heap.size wa W) => h2.under hW h2.lt)
  have HBA := Lib.hid (fun W (hW : Below wa.heap.size wa W) => hbwa.trans (hW.mono hbwa.size))
  have HLT := Lib.hid hl
  have HS := Lib.hid (fun W (hW : Below w.heap.size w W) => hs.under hW)
  have HL := Lib.hid hs.1
  have HCJ := Lib.hid hcj
  have HCC := Lib.hid hc
  have HNB := Lib.hid hn
  have HNN := Lib.hid (light_nums13 hl)
  obtain ⟨E, hE⟩ : ∃ E, setE t ⟨l, next⟩ route train = E := ⟨_, rfl⟩
  have HE := Lib.hid hE
  rw [hE]
  obtain ⟨⟨EL, EN⟩, EO, EE⟩ := E
  dsimp only
  clear hwa hbwa h0 h1 h2 ht hl hs hcj hc hn hE
  go_enter Try.func12, Try.ntmps12
  go_upto_region 1 with fail
  rw [HWA.out]
  clear HWA
  go_wp2_with (first | (with_reducible refine wpList_load_row (o := ⟨some 14, _, _, _, _, _⟩) rfl 27 _ rfl (w.heap.size) rfl 27 (tpC t a) (0, 0) _ ((H0.out wa (Below.refl _ _))).raw11 Try.underlying27 rfl (by kernel_rfl) ?_) | (with_reducible refine wpList_load_row (o := ⟨some 15, _, _, _, _, _⟩) rfl 34 _ rfl (w.heap.size + 1) rfl 34 #[.slice A n c, .int .i64 next] (0, 0) _ ((H1.out wa (Below.refl _ _))).raw11 Try.underlying34 rfl (by kernel_rfl) ?_))
  refine (olc_may t a l next A n c wa (HT.out _ HBWA.out) HLT.out HCJ.out (HS.out _ HBWA.out) HCC.out HNB.out).mono ?_
  obtain ⟨bm, hbm⟩ : ∃ b, mayB t ⟨l, next⟩ = b := ⟨_, rfl⟩
  rw [hbm]
  rintro e_ w1 ⟨rfl, hb1⟩
  have HB1 := Lib.hid hb1
  have HBM := Lib.hid hbm
  clear hb1 hbm
  cases bm with
  | false =>
    have hq_ := HE.out.symm.trans (show setE t ⟨l, next⟩ route train = (zeroI, 0, 1) from by unfold setE; rw [HBM.out, if_pos (by rfl)])
    unfold zeroI at hq_
    simp only [Prod.mk.injEq, It3.mk.injEq] at hq_
    obtain ⟨⟨rfl, rfl⟩, rfl, rfl⟩ := hq_
    have HZ := Lib.hid (H2.out w1 HB1.out)
    have HR := Lib.hid (has_row11 HZ.out #[.slice none 0 0, .int .i64 0])
    have HBF := Lib.hid (below_row (g := w.heap.size + 1 + 1) (HBA.out w1 HB1.out) (by omega) #[.slice none 0 0, .int .i64 0])
    clear HE
    go_wp2_with (with_reducible refine wpList_store_rowTo (o := ⟨none, _, _, _, _, _⟩) rfl 34 _ _ rfl rfl (w.heap.size + 1 + 1) #[.slice none 0 0, .int .i64 0] rfl rfl 34 _ (HZ.out).raw11 (by kernel_rfl) (by kernel_rfl) (by kernel_rfl) ?_)
    refine bodyPost_ret (results_rtto rfl _ _ (w.heap.size + 1 + 1) 34 _ _ rfl HR.out Try.underlying34 rfl (by kernel_rfl)) rfl ?_
    exact ⟨none, 0, 0, rfl, LkT.none _, HBF.out⟩
  | true =>
  have HM := may_iff.1 HBM.out
  have HE1 := Lib.hid (set_ref (route := route) (train := train) HBM.out)
  dsimp only at HE1
  have HMN := Lib.hid (show l.length ≤ 24 ∧ 1 ≤ next ∧ next ≤ 1099511627776 from ⟨HM.few, HM.lo, HM.hi⟩)
  clear HM HBM
  have f0 : w1.cell? ⟨w.heap.size + 1, 0, none⟩ = some (.slice A n c) := (H1.out w1 HB1.out).cell 0
  obtain ⟨er, her⟩ : ∃ e, refE t l route train = e := ⟨_, rfl⟩
  have HC := Lib.hid (olref_any t a l route train A n c w1 (HT.out _ (HBA.out _ HB1.out)) HLT.out (HS.out _ (HBA.out _ HB1.out)) HNB.out)
  rw [her] at HC HE1
  clear her
  go_upto_region 3 with fail
  go_wp2_with (with_reducible refine wpList_load_row (o := ⟨some 19, _, _, _, _, _⟩) rfl 27 _ rfl (w.heap.size) rfl 27 (tpC t a) (0, 0) _ ((H0.out w1 HB1.out)).raw11 Try.underlying27 rfl (by kernel_rfl) ?_)
  refine HC.out.mono ?_
  rintro e_ w2 ⟨rfl, hb2⟩
  have HB2 := Lib.hid (HB1.out.trans (hb2.mono HB1.out.size))
  clear hb2 HC HB1 f0
  by_cases z0 : er = 0
  rotate_left
  · have q0 : (er != 0) = true := by simp [z0]
    have hq_ := HE.out.symm.trans (show setE t ⟨l, next⟩ route train = (zeroI, 0, er) from HE1.out.trans (if_pos z0))
    unfold zeroI at hq_
    simp only [Prod.mk.injEq, It3.mk.injEq] at hq_
    obtain ⟨⟨rfl, rfl⟩, rfl, he_⟩ := hq_
    subst he_
    have HZ := Lib.hid (H2.out w2 HB2.out)
    have HR := Lib.hid (has_row11 HZ.out #[.slice none 0 0, .int .i64 0])
    have HBF := Lib.hid (below_row (g := w.heap.size + 1 + 1) (HBA.out w2 HB2.out) (by omega) #[.slice none 0 0, .int .i64 0])
    clear HE
    go_wp2_with (with_reducible refine wpList_store_rowTo (o := ⟨none, _, _, _, _, _⟩) rfl 34 _ _ rfl rfl (w.heap.size + 1 + 1) #[.slice none 0 0, .int .i64 0] rfl rfl 34 _ (HZ.out).raw11 (by kernel_rfl) (by kernel_rfl) (by kernel_rfl) ?_)
    refine bodyPost_ret (results_rtto rfl _ _ (w.heap.size + 1 + 1) 34 _ _ rfl HR.out Try.underlying34 rfl (by kernel_rfl)) rfl ?_
    exact ⟨none, 0, 0, rfl, LkT.none _, HBF.out⟩
  subst z0
  have HE2 := Lib.hid (HE1.out.trans (if_neg (by decide)))
  clear HE1
  have f0 : w2.cell? ⟨w.heap.size + 1, 0, none⟩ = some (.slice A n c) := (H1.out w2 HB2.out).cell 0
  have f1 : w2.cell? ⟨w.heap.size + 1, 1, none⟩ = some (.int .i64 next) := (H1.out w2 HB2.out).cell 1
  by_cases z1 : n = 24
  · have q1 : ((n : Int) == 24) = true := by simp; omega
    have z1' : (n : Int) = 24 := by omega
    have hq_ := HE.out.symm.trans (show setE t ⟨l, next⟩ route train = (zeroI, 0, 3) from HE2.out.trans (if_pos (.inl (by rw [HL.out]; exact z1))))
    unfold zeroI at hq_
    simp only [Prod.mk.injEq, It3.mk.injEq] at hq_
    obtain ⟨⟨rfl, rfl⟩, rfl, rfl⟩ := hq_
    have HZ := Lib.hid (H2.out w2 HB2.out)
    have HR := Lib.hid (has_row11 HZ.out #[.slice none 0 0, .int .i64 0])
    have HBF := Lib.hid (below_row (g := w.heap.size + 1 + 1) (HBA.out w2 HB2.out) (by omega) #[.slice none 0 0, .int .i64 0])
    clear HE
    go_wp2_with (with_reducible refine wpList_store_rowTo (o := ⟨none, _, _, _, _, _⟩) rfl 34 _ _ rfl rfl (w.heap.size + 1 + 1) #[.slice none 0 0, .int .i64 0] rfl rfl 34 _ (HZ.out).raw11 (by kernel_rfl) (by kernel_rfl) (by kernel_rfl) ?_)
    refine bodyPost_ret (results_rtto rfl _ _ (w.heap.size + 1 + 1) 34 _ _ rfl HR.out Try.underlying34 rfl (by kernel_rfl)) rfl ?_
    exact ⟨none, 0, 0, rfl, LkT.none _, HBF.out⟩
  have q1 : ((n : Int) == 24) = false := by simp; omega
  have z1' : ¬ (n : Int) = 24 := by omega
  by_cases z2 : next = 1099511627776
  · have q2 : (next == 1099511627776) = true := by simp [z2]
    have hq_ := HE.out.symm.trans (show setE t ⟨l, next⟩ route train = (zeroI, 0, 3) from HE2.out.trans (if_pos (.inr z2)))
    unfold zeroI at hq_
    simp only [Prod.mk.injEq, It3.mk.injEq] at hq_
    obtain ⟨⟨rfl, rfl⟩, rfl, rfl⟩ := hq_
    have HZ := Lib.hid (H2.out w2 HB2.out)
    have HR := Lib.hid (has_row11 HZ.out #[.slice none 0 0, .int .i64 0])
    have HBF := Lib.hid (below_row (g := w.heap.size + 1 + 1) (HBA.out w2 HB2.out) (by omega) #[.slice none 0 0, .int .i64 0])
    clear HE
    go_wp2_with (with_reducible refine wpList_store_rowTo (o := ⟨none, _, _, _, _, _⟩) rfl 34 _ _ rfl rfl (w.heap.size + 1 + 1) #[.slice none 0 0, .int .i64 0] rfl rfl 34 _ (HZ.out).raw11 (by kernel_rfl) (by kernel_rfl) (by kernel_rfl) ?_)
    refine bodyPost_ret (results_rtto rfl _ _ (w.heap.size + 1 + 1) 34 _ _ rfl HR.out Try.underlying34 rfl (by kernel_rfl)) rfl ?_
    exact ⟨none, 0, 0, rfl, LkT.none _, HBF.out⟩
  have q2 : (next == 1099511627776) = false := by simp [z2]
  have hq_ := HE.out.symm.trans (HE2.out.trans (if_neg (by rw [HL.out]; omega)))
  simp only [Prod.mk.injEq, It3.mk.injEq] at hq_
  obtain ⟨⟨rfl, rfl⟩, h3_, rfl⟩ := hq_
  have h3_ := h3_.symm
  subst h3_
  clear HE HE2
  go_upto_region 9 with fail
  clear z1 z1' z2 q1 q2 f1
  go_wp2_with fail
  refine (oclonel_any A n c l w2 (HS.out _ (HBA.out _ HB2.out)) HNB.out).mono ?_
  rintro e_ v1 ⟨A1, c1, rfl, ho, hb⟩
  have HO := Lib.hid ho; have HB := Lib.hid hb
  have HX := Lib.hid (HB2.out.trans (hb.mono HB2.out.size))
  clear ho hb f0
  obtain ⟨hN, hO, hC, h1, hBD⟩ := pushR (f := lcC) (k := 3) (e := 50) (w := v1) 24 ⟨route, train, next⟩ #[.int .i64 route, .int .i64 train, .int .i64 next] rfl rfl (one_lc16 _) HO.out HB.out.size (by have := HNB.out; omega) (by omega)
  have HBW := Lib.hid (show Below w2.heap.size w2 (v1.alloc (.cells #[.int .i64 route, .int .i64 train, .int .i64 next] 50)) from HB.out.alloc HB.out.size _)
  have HLN := Lib.hid HO.out.2
  clear HO HB
  go_wp2_with (with_reducible refine wpList_push (o := ⟨some 49, _, _, _, _, _⟩) rfl (.tmp 43) (.tmp 48) 32 rfl w2.heap.size 50 (.agg #[.int .i64 0, .int .i64 0, .int .i64 0]) 3 24 Try.underlying32 info_lock16 ?hz2 (by decide) A1 (n) c1 ((l).flatMap lcC) ?hs2 hO ⟨v1.heap.size, 0, none⟩ 1 1 (lcC ⟨route, train, next⟩) ?hx2 hN hC h1 hBD ?next2)
  all_goals try rfl
  case next2 =>
    intro A2 c2 v2 ho hg
    have HO3 := Lib.hid (OwR.snoc HLN.out ho.out)
    have HB3 := Lib.hid (HB2.out.trans ((below_own HBW.out HBW.out.size hO.out (Nat.le_refl _) rfl hg.out).mono HB2.out.size))
    clear ho hg hN hO hC h1 hBD HBW HLN HX
    obtain ⟨n2, hn2⟩ : ∃ n2, n + 1 = n2 := ⟨_, rfl⟩
    rw [hn2] at HO3
    simp only [hn2]
    clear hn2
    have hw1 : IntKind.i64.wrap (next + 1) = next + 1 := by rw [IntKind.wrap_i64]; have h_ := HMN.out; omega
    have hw2 : wrap64 (next + 1) = next + 1 := IntWalk.wrap64_in _ (by have h_ := HMN.out; omega)
    have HZ := Lib.hid (H2.out v2 HB3.out)
    have HLK := Lib.hid (LkT.of_own HO3.out)
    have HR := Lib.hid (has_row11 HZ.out #[.slice A2 n2 c2, .int .i64 (next + 1)])
    have HLR := Lib.hid (LkT.row HLK.out HZ.out (by decide) #[.slice A2 n2 c2, .int .i64 (next + 1)])
    have HBF := Lib.hid (below_row (g := w.heap.size + 1 + 1) (HBA.out _ HB3.out) (by omega) #[.slice A2 n2 c2, .int .i64 (next + 1)])
    clear HO3 HB3 HLK
    go_wp2_with (with_reducible refine wpList_store_rowTo (o := ⟨none, _, _, _, _, _⟩) rfl 34 _ _ rfl rfl (w.heap.size + 1 + 1) #[.slice A2 n2 c2, .int .i64 (next + 1)] rfl rfl 34 _ (HZ.out).raw11 (by kernel_rfl) (by kernel_rfl) (by kernel_rfl) ?_)
    refine bodyPost_ret (results_rtto rfl _ _ (w.heap.size + 1 + 1) 34 _ _ rfl HR.out Try.underlying34 rfl (by kernel_rfl)) rfl ?_
    exact ⟨A2, n2, c2, rfl, HLR.out, HBF.out⟩

set_option maxRecDepth 100000 in
set_option maxHeartbeats 20000000 in
theorem olc_free (t : Tp3) (a : TpA) (l : List Lc3) (next : Int) (A : Option Addr) (n c : Nat) (w : World) (no : Int) (ht : TopR w t a) (hl : lightT t = true) (hcj : t.joints.length ≤ a.cj) (hs : SlO lcC 3 w A n c l) (hc : n ≤ c) (hn : n ≤ 1000) : Calls Try.prog 13 #[.agg (tpC t a), .agg #[.slice A n c, .int .i64 next], .int .i64 no] w fun r w' => ∃ X k x, r = .returned (.tuple #[.agg #[.slice X k x, .int .i64 (freeE t ⟨l, next⟩ no).1.next], .int .i64 (freeE t ⟨l, next⟩ no).2]) ∧ LkT w' X k x (freeE t ⟨l, next⟩ no).1.locks ∧ Below w.heap.size w w' := by
  obtain ⟨wa, hwa⟩ : ∃ wa, (((w.alloc (.cells (tpC t a) 27)).alloc (.cells #[.slice A n c, .int .i64 next] 34)).alloc (.cells #[.int .i64 no] 3)).alloc (.cells #[.slice none 0 0, .int .i64 0] 34) = wa := ⟨_, rfl⟩
  have hbwa : Below w.heap.size w wa := by rw [← hwa]; exact ((((Below.refl _ _).alloc (Nat.le_refl _) _).alloc (by simp) _).alloc (by simp; omega) _).alloc (by simp; omega) _
  have h0 : Has wa (w.heap.size) 27 (tpC t a) := by rw [← hwa]; exact ((((Has.made _ _ _).beside _).beside _).beside _)
  have h1 : Has wa (w.heap.size + 1) 34 #[.slice A n c, .int .i64 next] := by rw [← hwa]; exact (((has_at11 (by simp)).beside _).beside _)
  have h2 : Has wa (w.heap.size + 1 + 1) 3 #[.int .i64 no] := by rw [← hwa]; exact ((has_at11 (by simp)).beside _)
  have h3 : Has wa (w.heap.size + 1 + 1 + 1) 34 #[.slice none 0 0, .int .i64 0] := by rw [← hwa]; exact (has_at11 (by simp))
  have HWA := Lib.hid hwa; have HBWA := Lib.hid hbwa
  have HT := Lib.hid (fun W (hW : Below w.heap.size w W) => ht.under hW)
  have H0 := Lib.hid (fun W (hW : Below wa.heap.size wa W) => h0.under hW h0.lt)
  have H1 := Lib.hid (fun W (hW : Below wa.heap.size wa W) => h1.under hW h1.lt)
  have HN_ := Lib.hid (fun W (hW : Below wa.heap.size wa W) => h2.under hW h2.lt)
  have HBA := Lib.hid (fun W (hW : Below wa.heap.size wa W) => hbwa.trans (hW.mono hbwa.size))
  have HLT := Lib.hid hl
  have HS := Lib.hid (fun W (hW : Below w.heap.size w W) => hs.under hW)
  have HL := Lib.hid hs.1
  have HCJ := Lib.hid hcj
  have HCC := Lib.hid hc
  have HNB := Lib.hid hn
  have HNN := Lib.hid (light_nums13 hl)
  have H3 := Lib.hid (fun W (hW : Below wa.heap.size wa W) => h3.under hW h3.lt)
  obtain ⟨E, hE⟩ : ∃ E, freeE t ⟨l, next⟩ no = E := ⟨_, rfl⟩
  have HE := Lib.hid hE
  rw [hE]
  obtain ⟨⟨EL, EN⟩, EE⟩ := E
  dsimp only
  clear hwa hbwa h0 h1 h2 h3 ht hl hs hcj hc hn hE
  go_enter Try.func13, Try.ntmps13
  go_upto_region 1 with fail
  rw [HWA.out]
  clear HWA
  go_wp2_with (first | (with_reducible refine wpList_load_row (o := ⟨some 9, _, _, _, _, _⟩) rfl 27 _ rfl (w.heap.size) rfl 27 (tpC t a) (0, 0) _ ((H0.out wa (Below.refl _ _))).raw11 Try.underlying27 rfl (by kernel_rfl) ?_) | (with_reducible refine wpList_load_row (o := ⟨some 10, _, _, _, _, _⟩) rfl 34 _ rfl (w.heap.size + 1) rfl 34 #[.slice A n c, .int .i64 next] (0, 0) _ ((H1.out wa (Below.refl _ _))).raw11 Try.underlying34 rfl (by kernel_rfl) ?_))
  refine (olc_may t a l next A n c wa (HT.out _ HBWA.out) HLT.out HCJ.out (HS.out _ HBWA.out) HCC.out HNB.out).mono ?_
  obtain ⟨bm, hbm⟩ : ∃ b, mayB t ⟨l, next⟩ = b := ⟨_, rfl⟩
  rw [hbm]
  rintro e_ w1 ⟨rfl, hb1⟩
  have HB1 := Lib.hid hb1
  have HBM := Lib.hid hbm
  clear hb1 hbm
  cases bm with
  | false =>
    have hq_ := HE.out.symm.trans (show freeE t ⟨l, next⟩ no = (zeroI, 1) from by unfold freeE; rw [HBM.out, if_pos rfl])
    unfold zeroI at hq_
    simp only [Prod.mk.injEq, It3.mk.injEq] at hq_
    obtain ⟨⟨rfl, rfl⟩, rfl⟩ := hq_
    have HZ := Lib.hid (H3.out w1 HB1.out)
    have HR := Lib.hid (has_row11 HZ.out #[.slice none 0 0, .int .i64 0])
    have HBF := Lib.hid (below_row (g := w.heap.size + 1 + 1 + 1) (HBA.out w1 HB1.out) (by omega) #[.slice none 0 0, .int .i64 0])
    clear HE
    go_wp2_with (with_reducible refine wpList_store_rowTo (o := ⟨none, _, _, _, _, _⟩) rfl 34 _ _ rfl rfl (w.heap.size + 1 + 1 + 1) #[.slice none 0 0, .int .i64 0] rfl rfl 34 _ (HZ.out).raw11 (by kernel_rfl) (by kernel_rfl) (by kernel_rfl) ?_)
    refine bodyPost_ret (results_row_tmp11 rfl _ _ (w.heap.size + 1 + 1 + 1) 34 _ _ rfl HR.out Try.underlying34 rfl (by kernel_rfl)) rfl ?_
    exact ⟨none, 0, 0, rfl, LkT.none _, HBF.out⟩
  | true =>
  have HE1 := Lib.hid (show freeE t ⟨l, next⟩ no = if (l.filter (keepN no)).length = l.length then (zeroI, 4) else (⟨l.filter (keepN no), next⟩, 0) from by unfold freeE; rw [HBM.out, if_neg (by decide)])
  clear HBM
  have f0 : w1.cell? ⟨w.heap.size + 1, 0, none⟩ = some (.slice A n c) := (H1.out w1 HB1.out).cell 0
  have n0 : w1.cell? ⟨w.heap.size + 1 + 1, 0, none⟩ = some (.int .i64 no) := (HN_.out w1 HB1.out).cell 0
  have HC := Lib.hid (owo_lf (fun k => k.no == no) l A n c (w.heap.size + 1 + 1) w1 (HS.out _ (HBA.out _ HB1.out)) HNB.out (Lib.hid fun x W hW => olcf_any x no (w.heap.size + 1 + 1) W ((hW.cell (cell_block n0)).trans n0)))
  rw [show (l.filter fun k => !(k.no == no)) = l.filter (keepN no) from rfl] at HC
  clear n0
  go_wp2_with fail
  refine HC.out.mono ?_
  obtain ⟨L, hL⟩ : ∃ L, l.filter (keepN no) = L := ⟨_, rfl⟩
  rw [hL]
  rw [hL] at HE1
  rintro e_ w2 ⟨X, k, x, rfl, ho, hb⟩
  have HO := Lib.hid ho
  have HX := Lib.hid (HB1.out.trans (hb.mono HB1.out.size))
  clear ho hb hL HC f0
  have f0 : w2.cell? ⟨w.heap.size + 1, 0, none⟩ = some (.slice A n c) := (H1.out w2 HX.out).cell 0
  have f1 : w2.cell? ⟨w.heap.size + 1, 1, none⟩ = some (.int .i64 next) := (H1.out w2 HX.out).cell 1
  have HKL := Lib.hid HO.out.2
  by_cases y1 : k = n
  · have q1 : ((k : Int) == n) = true := by simp [y1]
    have y2 : (k : Int) = n := by omega
    have hq_ := HE.out.symm.trans (show freeE t ⟨l, next⟩ no = (zeroI, 4) from HE1.out.trans (if_pos (by rw [HKL.out, HL.out]; exact y1)))
    unfold zeroI at hq_
    simp only [Prod.mk.injEq, It3.mk.injEq] at hq_
    obtain ⟨⟨rfl, rfl⟩, rfl⟩ := hq_
    have HZ := Lib.hid (H3.out w2 HX.out)
    have HR := Lib.hid (has_row11 HZ.out #[.slice none 0 0, .int .i64 0])
    have HBF := Lib.hid (below_row (g := w.heap.size + 1 + 1 + 1) (HBA.out w2 HX.out) (by omega) #[.slice none 0 0, .int .i64 0])
    clear HE
    go_wp2_with (with_reducible refine wpList_store_rowTo (o := ⟨none, _, _, _, _, _⟩) rfl 34 _ _ rfl rfl (w.heap.size + 1 + 1 + 1) #[.slice none 0 0, .int .i64 0] rfl rfl 34 _ (HZ.out).raw11 (by kernel_rfl) (by kernel_rfl) (by kernel_rfl) ?_)
    refine bodyPost_ret (results_row_tmp11 rfl _ _ (w.heap.size + 1 + 1 + 1) 34 _ _ rfl HR.out Try.underlying34 rfl (by kernel_rfl)) rfl ?_
    exact ⟨none, 0, 0, rfl, LkT.none _, HBF.out⟩
  have q1 : ((k : Int) == n) = false := by simp; omega
  have y2 : ¬ (k : Int) = n := by omega
  have hq_ := HE.out.symm.trans (HE1.out.trans (if_neg (by rw [HKL.out, HL.out]; exact y1)))
  simp only [Prod.mk.injEq, It3.mk.injEq] at hq_
  obtain ⟨⟨rfl, h3_⟩, rfl⟩ := hq_
  have h3_ := h3_.symm
  subst h3_
  have HZ := Lib.hid (H3.out w2 HX.out)
  have HLK := Lib.hid (LkT.of_own HO.out)
  have HR := Lib.hid (has_row11 HZ.out #[.slice X k x, .int .i64 next])
  have HLR := Lib.hid (LkT.row HLK.out HZ.out (by decide) #[.slice X k x, .int .i64 next])
  have HBF := Lib.hid (below_row (g := w.heap.size + 1 + 1 + 1) (HBA.out _ HX.out) (by omega) #[.slice X k x, .int .i64 next])
  clear HE HE1 y1
  go_wp2_with (with_reducible refine wpList_store_rowTo (o := ⟨none, _, _, _, _, _⟩) rfl 34 _ _ rfl rfl (w.heap.size + 1 + 1 + 1) #[.slice X k x, .int .i64 next] rfl rfl 34 _ (HZ.out).raw11 (by kernel_rfl) (by kernel_rfl) (by kernel_rfl) ?_)
  refine bodyPost_ret (results_row_tmp11 rfl _ _ (w.heap.size + 1 + 1 + 1) 34 _ _ rfl HR.out Try.underlying34 rfl (by kernel_rfl)) rfl ?_
  exact ⟨X, k, x, rfl, HLR.out, HBF.out⟩

set_option maxRecDepth 100000 in
set_option maxHeartbeats 20000000 in
theorem olc_locked (t : Tp3) (a : TpA) (l : List Lc3) (train : Int) (A : Option Addr) (n c : Nat) (w : World) (ht : TopR w t a) (hl : lightT t = true) (hcj : t.joints.length ≤ a.cj) (hs : SlO lcC 3 w A n c l) (_ : n ≤ c) (hn : n ≤ 100) : Calls Try.prog 11 #[.agg (tpC t a), .slice A n c, .int .i64 train] w fun r w' => ∃ X x, r = .returned (.slice X (lockedL t l train).length x) ∧ SlO snC 3 w' X (lockedL t l train).length x (lockedL t l train) ∧ (lockedL t l train).length ≤ x ∧ Below w.heap.size w w' := by
  obtain ⟨wa, hwa⟩ : ∃ wa, w.alloc (.cells (tpC t a) 27) = wa := ⟨_, rfl⟩
  have hbwa : Below w.heap.size w wa := by rw [← hwa]; exact (Below.refl _ _).alloc (Nat.le_refl _) _
  have h0 : Has wa (w.heap.size) 27 (tpC t a) := by rw [← hwa]; exact (Has.made _ _ _)
  have HWA := Lib.hid hwa; have HBWA := Lib.hid hbwa
  have HT := Lib.hid (fun W (hW : Below w.heap.size w W) => ht.under hW)
  have H0 := Lib.hid (fun W (hW : Below wa.heap.size wa W) => h0.under hW h0.lt)
  have HBA := Lib.hid (fun W (hW : Below wa.heap.size wa W) => hbwa.trans (hW.mono hbwa.size))
  have HLT := Lib.hid hl
  have HS := Lib.hid (fun W (hW : Below w.heap.size w W) => hs.under hW)
  have HL := Lib.hid hs.1
  have HCJ := Lib.hid hcj
  obtain ⟨R, hR⟩ : ∃ R, lockedL t l train = R := ⟨_, rfl⟩
  have HR := Lib.hid hR
  rw [hR]
  have HNB := Lib.hid hn
  have HNN := Lib.hid (light_nums13 hl)
  clear hwa hbwa h0 ht hl hs hR hcj hn
  go_enter Try.func11, Try.ntmps11
  go_upto_region 1 with fail
  rw [HWA.out]
  clear HWA
  go_wp2_with (with_reducible refine wpList_load_row (o := ⟨some 11, _, _, _, _, _⟩) rfl 27 _ rfl (w.heap.size) rfl 27 (tpC t a) (0, 0) _ ((H0.out wa (Below.refl _ _))).raw11 Try.underlying27 rfl (by kernel_rfl) ?_)
  refine (otp_check t a wa (HT.out _ HBWA.out) HLT.out HCJ.out).mono ?_
  rintro e w1 ⟨rfl, hb1⟩
  have HB1 := Lib.hid hb1
  clear hb1
  by_cases z0 : checkE t = 0
  rotate_left
  · have q0 : (checkE t != 0) = true := by simp [z0]
    obtain rfl : R = [] := by rw [← HR.out]; unfold lockedL; rw [if_neg z0]
    go_wp2
    go_ret
    exact ⟨none, 0, rfl, SlO.nil _ _ _, Nat.le_refl _, HBA.out _ HB1.out⟩
  have HZ := Lib.hid z0
  have HR := Lib.hid (show normL (onesE t (ofL l train) t.routes) = R from by rw [ones_norm, ← HR.out]; unfold lockedL; rw [if_pos z0])
  rw [z0]
  clear z0
  go_wp2_with fail
  refine (oolof_any l train A n c w1 (HS.out _ (HBA.out _ HB1.out)) (by have := HNB.out; omega)).mono ?_
  rintro e w2 ⟨X0, k0, x0, rfl, ho, hb2⟩
  have HKB : Hid (k0 ≤ 100) := Lib.hid (by have h0_ := ho.1.1; have h1_ := HL.out; have h2_ := HNB.out; have h3_ : (ofL l train).length ≤ l.length := List.length_filter_le _ _; omega)
  have HOS := Lib.hid ho.1
  have HB2 := Lib.hid (HB1.out.trans (hb2.mono HB1.out.size))
  have HX := Lib.hid (fun W (hW : Below w2.heap.size w2 W) => (show Below wa.heap.size wa W from HB1.out.trans ((hb2.trans (hW.mono hb2.size)).mono HB1.out.size)))
  clear ho hb2 HB1
  obtain ⟨O, hO⟩ : ∃ O, ofL l train = O := ⟨_, rfl⟩
  rw [hO] at HR HOS
  clear hO
  have c3 : w2.cell? ⟨w.heap.size, 3, none⟩ = some (.slice a.ar t.routes.length a.cr) := (H0.out w2 HB2.out).cell 3
  have HRT := Lib.hid (fun W (hW : Below w.heap.size w W) => (HT.out W hW).r)
  obtain ⟨AR, hAR⟩ : ∃ A, a.ar = A := ⟨_, rfl⟩
  rw [hAR] at c3 HRT
  clear hAR
  obtain ⟨rn, hrn⟩ : ∃ m, t.routes.length = m := ⟨_, rfl⟩
  rw [hrn] at c3 HRT
  have HRN := Lib.hid hrn
  have HRB := Lib.hid (show rn ≤ 100 from by rw [← hrn]; exact HNN.out.2.2.2.1)
  clear hrn HB2
  have hx0 : (0 : Int) ≤ rn := by omega
  go_wp2
  clear c3
  go_loopg [8, 20] rn (fun kk v8 v20 wl => ∃ (i k : Nat) (X : Option Addr) (x : Nat), i ≤ rn ∧ rn - i ≤ kk ∧ v20 = .int .i64 i ∧ v8 = .slice X k x ∧ Hid (k ≤ 16 * i) ∧ Hid (OwR snC 3 80 w2.heap.size wl X k x (onesE t O (t.routes.take i))) ∧ Hid (Below w2.heap.size w2 wl))
  case atStart => exact ⟨0, 0, none, 0, by omega, by omega, rfl, rfl, Lib.hid (by omega), Lib.hid (OwR.nil _ _ _ _ _), Lib.hid (Below.refl _ _)⟩
  case round =>
    obtain ⟨i, k, X, x, hi, hik, rfl, rfl, HK, HO, HB⟩ := hrel
    obtain ⟨k1, hk1⟩ : ∃ k1, k1 = gk := ⟨_, rfl⟩
    subst hk1
    obtain ⟨wv, hwv⟩ : ∃ wv, wv = wr := ⟨_, rfl⟩
    subst hwv
    by_cases hlt : i < rn
    rotate_left
    · obtain rfl : i = rn := by omega
      have x1 : ¬ (i : Int) < i := by omega
      have HE : Hid (t.routes.take i = t.routes) := Lib.hid (List.take_of_length_le (by rw [HRN.out]; exact Nat.le_refl _))
      clear hik hlt
      go_wp2_with fail
      refine (osn_norm _ X k x wv HO.out.sl HO.out.cap (by have h1_ := HK.out; have h2_ := HRB.out; omega)).mono ?_
      rw [HE.out, HR.out]
      rintro e_ w3 ⟨Y, y, rfl, hs1, hc1, hb1⟩
      have HS1 := Lib.hid hs1; have HC1 := Lib.hid hc1; have HB3 := Lib.hid (HB.out.trans (hb1.mono HB.out.size))
      clear hs1 hc1 hb1
      go_wp2
      go_ret
      exact ⟨Y, y, rfl, HS1.out, HC1.out, HBA.out _ (HX.out _ HB3.out)⟩
    obtain ⟨s, hs⟩ : ∃ s, t.routes[i]? = some s := ⟨_, List.getElem?_eq_getElem (by rw [HRN.out]; exact hlt)⟩
    have HTK := Lib.hid (ones_step (t := t) (O := O) hs)
    obtain ⟨bk, off, PA, pc, rfl, _, d0, d1, d2, d3⟩ := (HRT.out wv (HBA.out _ (HX.out _ HB.out))).at_ hs
    clear hs
    obtain ⟨sr, sp, sg, st⟩ := s
    dsimp only at *
    have x1 : (i : Int) < rn := by omega
    have x2 : (0 : Int) ≤ i := by omega
    have HIN := Lib.hid (show i < rn ∧ rn - i ≤ k1 from ⟨hlt, hik⟩)
    have HE8 := Lib.hid (ext_few8 HZ.out sr)
    obtain ⟨pn, hpn⟩ : ∃ m, sp.length = m := ⟨_, rfl⟩
    rw [hpn] at d1
    clear hlt hi hik hpn
    go_upto_region 8 with fail
    obtain ⟨wb, hwb⟩ : ∃ wb, wv.alloc (.cells #[.int .i64 sr, .slice PA pn pc, .int .i64 sg, .int .i64 st] 61) = wb := ⟨_, rfl⟩
    rw [hwb]
    have hbb : Below wv.heap.size wv wb := by rw [← hwb]; exact (Below.refl _ _).alloc (Nat.le_refl _) _
    have hH : Has wb wv.heap.size 61 #[.int .i64 sr, .slice PA pn pc, .int .i64 sg, .int .i64 st] := by rw [← hwb]; exact Has.made _ _ _
    obtain ⟨gl, hgl⟩ : ∃ g, wv.heap.size = g := ⟨_, rfl⟩
    have HO1 := Lib.hid (HO.out.under hbb)
    have HBB := Lib.hid (HB.out.trans (hbb.mono HB.out.size))
    have HG := Lib.hid hH
    simp only [hgl] at HG ⊢
    clear hwb hbb hH hgl d0 d1 d2 d3 x1 x2 HO HB
    have e0 : wb.cell? ⟨gl, 0, none⟩ = some (.int .i64 sr) := HG.out.cell 0
    obtain ⟨q, hq⟩ : ∃ q, thereB O sr = q := ⟨_, rfl⟩
    rw [hq] at HTK
    have HC := Lib.hid (olthere_any O sr X0 k0 x0 wb (HOS.out.under HBB.out) (by have := HKB.out; omega))
    rw [hq] at HC
    clear hq
    go_wp2_with fail
    refine HC.out.mono ?_
    rintro e_ w3 ⟨rfl, hb3⟩
    have HB3 := Lib.hid (HBB.out.trans (hb3.mono HBB.out.size))
    have HO2 := Lib.hid (HO1.out.under hb3)
    have HG2 := Lib.hid (HG.out.under hb3 HG.out.lt)
    clear hb3 HC HBB HO1 HG e0
    cases q with
    | false =>
      rw [if_neg (by decide), List.append_nil] at HTK
      clear HG2
      go_wp2
      go_roundg (k1 - 1)
      case measure => have := HIN.out; omega
      case rel => exact ⟨i + 1, k, X, x, by have := HIN.out; omega, by have := HIN.out; omega, by rw [IntWalk.wrap64_in _ (by have h1_ := HIN.out; have h2_ := HRB.out; omega)]; go_num, rfl, Lib.hid (by have := HK.out; omega), Lib.hid (by rw [HTK.out]; exact HO2.out), HB3⟩
    | true =>
      rw [if_pos rfl] at HTK
      have e0 : w3.cell? ⟨gl, 0, none⟩ = some (.int .i64 sr) := HG2.out.cell 0
      clear HG2
      go_upto_region 9 with fail
      go_wp2_with (with_reducible refine wpList_load_row (o := ⟨some 29, _, _, _, _, _⟩) rfl 27 _ rfl (w.heap.size) rfl 27 (tpC t a) (0, 0) _ ((H0.out _ (HX.out _ HB3.out))).raw11 Try.underlying27 rfl (by kernel_rfl) ?_)
      refine (oolext_any t a sr w3 (HT.out _ (HBA.out _ (HX.out _ HB3.out))) HLT.out).mono ?_
      rintro e_ w4 ⟨X1, x1_, rfl, hs1, _, hb4⟩
      obtain ⟨EX, hEX⟩ : ∃ L, extL t sr = L := ⟨_, rfl⟩
      rw [hEX] at hs1 HTK HE8
      simp only [hEX]
      have HS1 := Lib.hid hs1; have HO3 := Lib.hid (HO2.out.under hb4); have HB4 := Lib.hid (HB3.out.trans (hb4.mono HB3.out.size))
      clear hs1 hb4 hEX HO2 HB3 e0
      obtain ⟨ke, hke⟩ : ∃ m, EX.length = m := ⟨_, rfl⟩
      have HKE := Lib.hid hke
      rw [hke] at HS1 HE8
      simp only [hke]
      clear hke
      obtain ⟨hO, hSL, h1, hBD⟩ := pourR 24 HO3.out HS1.out one_sn15 HB4.out.size (by have h_ := HK.out; have h2_ := HRB.out; have h3_ := HE8.out; have h4_ := HIN.out; omega) (by omega)
      go_wp2_with (with_reducible refine wpList_pour (o := ⟨some 33, _, _, _, _, _⟩) rfl (.tmp 28) (.tmp 32) 39 rfl w2.heap.size 80 (.agg #[.int .i64 0, .int .i64 0, .int .i64 0]) 3 24 Try.underlying39 info_span15 ?hz (by decide) X k x ((onesE t O (t.routes.take i)).flatMap snC) ?hs hO X1 ke x1_ (EX.flatMap snC) ?hx hSL h1 hBD ?next)
      all_goals try rfl
      case next =>
        intro X3 x3 w5 ho hg
        have HO4 := Lib.hid (OwR.poured HO3.out.2 HKE.out ho.out)
        have HB5 := Lib.hid (below_own HB4.out HB4.out.size hO.out (Nat.le_refl _) rfl hg.out)
        rw [← HTK.out] at HO4
        clear ho hg hO hSL h1 hBD HO3 HS1 HB4
        go_wp2
        go_roundg (k1 - 1)
        case measure => have := HIN.out; omega
        case rel => exact ⟨i + 1, k + ke, X3, x3, by have := HIN.out; omega, by have := HIN.out; omega, by rw [IntWalk.wrap64_in _ (by have h1_ := HIN.out; have h2_ := HRB.out; omega)]; go_num, rfl, Lib.hid (by have h1_ := HK.out; have h2_ := HE8.out; omega), HO4, HB5⟩

end Go.Proofs.Yteioefgckigbcaa
