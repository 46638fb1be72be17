/-
  package topo as landed: slices.Collect, slices.SortedFunc; After.
-/
import Derived.Test.YtfchmjldhefmkaaToSeq

import Derived.Test.YtfchmjldhefmkaaToFolIff

import Derived.Test.YtfchmjldhefmkaaToSort

namespace Go.Proofs.Ytfchmjldhefmkaa

open Go.RowKit

open Go.Great

open Go.Sort (flatK HoldsK get_flatK)

open Go.Maps (has)

theorem flatK_eq (l : List St3) (j : Nat) (hj : j < l.length * 2) : (l.flatMap stC)[j]? = some (flatK stC 2 l.toArray)[j]! := by
  have h1 : j / 2 < l.length := by omega
  have h2 := flat_at (f := stC) (k := 2) (fun _ => rfl) (List.getElem?_eq_getElem h1) (i := j % 2) (by omega)
  rw [show j / 2 * 2 + j % 2 = j by omega] at h2
  rw [h2, get_flatK _ _ _ _ (by simpa using hj)]
  have h3 : l.toArray[j / 2]! = l[j / 2] := by rw [getElem!_pos l.toArray (j / 2) (by simpa using h1)]; simp
  rw [h3]
  rcases Nat.mod_two_eq_zero_or_one j with h | h <;> rw [h] <;> rfl
theorem holds_of_own {w : World} {base g c : Nat} {l : List St3} (h : w.ownsRow base 45 2 (.slice (some ⟨g, 0, none⟩) l.length c) l.length (l.flatMap stC)) : HoldsK stC 2 w g 0 l.toArray := by
  intro j hj
  have hj' : j < l.length * 2 := by simpa using hj
  refine ⟨?_, ?_⟩
  · have := (Sl.of_own h).2.2 _ rfl j _ (flatK_eq l j hj')
    rw [show ((⟨g, 0, none⟩ : Addr).add j) = ⟨g, 0 + j, none⟩ by simp [Addr.add]; exact fun h => h.symm] at this
    exact this
  · rcases h.2 with ⟨e, _⟩ | ⟨g', cap, cur, e, _, hb, _⟩
    · cases e
    · cases e
      exact Has.thaw (show Has w g 45 cur from hb) _
theorem slo_of_holds {w : World} {g c : Nat} {l : List St3} (h : HoldsK stC 2 w g 0 l.toArray) : SlO stC 2 w (some ⟨g, 0, none⟩) l.length c l := by
  refine ⟨rfl, flat_len (f := stC) (k := 2) (fun _ => rfl) l, (fun e => by cases e), fun ad ha j u hu => ?_⟩
  cases ha
  have hj : j < l.length * 2 := by
    have := (List.getElem?_eq_some_iff.1 hu).1
    rwa [flat_len (f := stC) (k := 2) (fun _ => rfl)] at this
  rw [flatK_eq l j hj] at hu
  cases hu
  have := (h j (by simpa using hj)).1
  rw [show ((⟨g, 0, none⟩ : Addr).add j) = ⟨g, 0 + j, none⟩ by simp [Addr.add]; exact fun h => h.symm]
  exact this

set_option maxRecDepth 100000 in
set_option maxHeartbeats 2000000 in
theorem otcollect_any (gf : Nat) (lb : Array Value) (S : List St3 → Prop) (N : Nat) (hN : N ≤ 1048576) (w : World) (eg : ∀ args w, (callFunc gf args).run Try.prog w = .ok (.enter gf args) w)
    (hseq : SeqStopsK Fence.wide 3 Try.prog gf lb encT KeepsWalks S (fun _ => True) N w) :
    Calls Try.prog 64 #[.func (.func gf) #[] lb] w fun e w' => ∃ (v : Value) (ss : List St3), e = .returned v ∧ S ss ∧ Hid (w'.ownsRow w.heap.size 45 2 v ss.length (ss.flatMap stC)) ∧ Below w.heap.size w w' := by
  have H := Lib.hid (otappend_any gf lb S N hN w eg hseq)
  clear hseq eg
  go_enter Try.func64, Try.ntmps64
  go_wp2_with fail
  refine H.out.mono ?_
  rintro e w1 ⟨v, ss, rfl, hS, ho, hb⟩
  have HS := Lib.hid hS; have HB := Lib.hid hb
  clear hS hb H
  go_wp2
  go_ret
  exact ⟨v, ss, rfl, HS.out, ho, HB.out⟩

set_option maxRecDepth 100000 in
set_option maxHeartbeats 2000000 in
theorem otsorted_any (gf : Nat) (lb : Array Value) (S : List St3 → Prop) (N : Nat) (hN : N ≤ 1048576) (hS : ∀ ss, S ss → ss.length ≤ 1048576) (w : World) (eg : ∀ args w, (callFunc gf args).run Try.prog w = .ok (.enter gf args) w)
    (hseq : SeqStopsK Fence.wide 3 Try.prog gf lb encT KeepsWalks S (fun _ => True) N w) :
    Calls Try.prog 44 #[.func (.func gf) #[] lb, .func (.func 47) #[] #[]] w fun e w' => ∃ (A : Option Addr) (c : Nat) (l : List St3), e = .returned (.slice A l.length c) ∧ Hid (SlO stC 2 w' A l.length c l) ∧ Hid (∃ ss, S ss ∧ l.Perm ss) ∧ Hid (l.Pairwise (fun x y => befS y x = false)) ∧ Below w.heap.size w w' := by
  have H := Lib.hid (otcollect_any gf lb S N hN w eg hseq)
  have HS := Lib.hid hS
  clear hseq eg hS
  go_enter Try.func44, Try.ntmps44
  go_wp2_with fail
  refine H.out.mono ?_
  rintro e w1 ⟨v, ss, rfl, hS, ho, hb⟩
  have HSS := Lib.hid hS; have HB := Lib.hid hb
  clear hS hb H
  obtain ⟨A, c, rfl⟩ := own_shape ho.out
  cases A with
  | none =>
    obtain rfl : ss = [] := by
      rcases ho.out.2 with ⟨_, h⟩ | ⟨g, cap, cur, e, _⟩
      · exact List.eq_nil_of_length_eq_zero h
      · cases e
    have HN := Lib.hid (fun W => otsort_none none c (.func (.func 47) #[] #[]) W)
    rw [List.length_nil] at ho ⊢
    go_wp2_with fail
    refine (HN.out _).mono ?_
    rintro e w2 ⟨rfl, rfl⟩
    have HO2 := ho
    clear HN ho
    go_wp2
    go_ret
    refine ⟨none, c, [], rfl, Lib.hid ⟨rfl, Sl.of_own HO2.out⟩, Lib.hid ⟨[], HSS.out, List.Perm.refl _⟩, Lib.hid List.Pairwise.nil, HB.out⟩
  | some ad =>
    obtain ⟨g, rfl, hg⟩ : ∃ g, ad = ⟨g, 0, none⟩ ∧ w.heap.size ≤ g := by
      rcases ho.out.2 with ⟨e, _⟩ | ⟨g, cap, cur, e, hg, _⟩
      · cases e
      · injection e with e1
        injection e1 with e2
        exact ⟨g, e2, hg⟩
    have hgl : g < w1.heap.size := by
      rcases ho.out.2 with ⟨e, _⟩ | ⟨g', cap, cur, e, _, hb, _⟩
      · cases e
      · cases e
        exact (Array.getElem?_eq_some_iff.1 hb).1
    have HN := Lib.hid (otsort_any ss g 0 c w1 (holds_of_own ho.out) hgl (HS.out ss HSS.out))
    have HG := Lib.hid hg
    clear ho hgl hg
    go_wp2_with fail
    refine HN.out.mono ?_
    rintro e w2 ⟨rfl, l, hp, hso, hh, hgw⟩
    have HP := Lib.hid hp; have HSO := Lib.hid hso; have HH := Lib.hid hh
    have HB2 := Lib.hid (below_only HB.out hgw HB.out.size HG.out)
    have HLE : Hid (ss.length = l.length) := Lib.hid hp.length_eq.symm
    clear HN hp hso hh hgw
    go_wp2
    go_ret
    refine ⟨some ⟨g, 0, none⟩, c, l, by rw [← HLE.out]; rfl, Lib.hid (slo_of_holds HH.out), Lib.hid ⟨ss, HSS.out, HP.out⟩, HSO, HB2.out⟩

theorem befS_irr {x y : St3} (h : befS x y = true) : x ≠ y ∧ befS y x = false := by
  rw [bef_false]
  rw [bef_iff] at h
  obtain ⟨a, b⟩ := x
  obtain ⟨c, d⟩ := y
  dsimp only at *
  refine ⟨fun e => ?_, ?_⟩
  · cases e
    cases b <;> simp at h
  · cases b <;> cases d <;> simp at * <;> omega
theorem befS_anti {x y : St3} (h1 : befS x y = false) (h2 : befS y x = false) : x = y := by
  rw [bef_false] at *
  obtain ⟨a, b⟩ := x
  obtain ⟨c, d⟩ := y
  dsimp only at *
  cases b <;> cases d <;> simp at * <;> omega
theorem after_up (t : Tp3) (s : St3) : (afterL t s).Pairwise (fun x y => befS x y = true) := by
  unfold afterL
  split
  · rw [List.pairwise_flatMap]
    refine ⟨fun i _ => ?_, ?_⟩
    · unfold stepsAt
      split <;> split <;> simp [befS]
    · refine (List.pairwise_lt_range).imp ?_
      intro a b hab x hx y hy
      have h1 := (steps_mem.1 hx).1
      have h2 := (steps_mem.1 hy).1
      rw [bef_iff, h1, h2]
      exact .inl (by omega)
  · exact List.Pairwise.nil
theorem after_is {t : Tp3} {s : St3} {l ss : List St3} {D : DataW Unit} (hl : t.edges.length ≤ 100) (hD : SetM D (folB t s)) (hS : ss.Nodup ∧ ∀ x, x ∈ ss ↔ (wfS x ∧ has D (stK x) = true)) (hp : l.Perm ss) (hs : l.Pairwise fun x y => befS y x = false) : l = afterL t s := by
  have hu := after_up t s
  have hn : (afterL t s).Nodup := hu.imp fun h => (befS_irr h).1
  refine List.Perm.eq_of_pairwise (le := fun x y => befS y x = false) (fun x y _ _ h1 h2 => befS_anti h2 h1) hs (hu.imp fun h => (befS_irr h).2) ?_
  refine hp.trans ((List.perm_ext_iff_of_nodup hS.1 hn).2 fun x => ?_)
  rw [hS.2 x, ← fol_iff]
  constructor
  · rintro ⟨h1, h2⟩
    rwa [hD.mem x h1] at h2
  · intro h
    have hw : wfS x := wfS_of (after_mem.1 (fol_iff.1 h)).2.1 hl
    exact ⟨hw, by rw [hD.mem x hw]; exact h⟩
theorem after_le13 (t : Tp3) (s : St3) (h : t.edges.length ≤ 100) : (afterL t s).length ≤ 1048576 := by
  have h1 : ∀ n : Nat, ((List.range n).flatMap (stepsAt t s)).length ≤ 2 * n := by
    intro n
    induction n with
    | zero => simp
    | succ n ih =>
      have h2 : (stepsAt t s n).length ≤ 2 := by
        unfold stepsAt
        rw [List.length_append]
        have h3 : ∀ (p : Prop) [Decidable p] (x : St3), (if p then [x] else []).length ≤ 1 := by
          intro p _ x
          split <;> simp
        have := h3 (mayT t s ⟨n, false⟩ = true) ⟨n, false⟩
        have := h3 (mayT t s ⟨n, true⟩ = true) ⟨n, true⟩
        omega
      rw [List.range_succ, List.flatMap_append, List.length_append]
      simp only [List.flatMap_cons, List.flatMap_nil, List.append_nil]
      omega
  unfold afterL
  split
  · have := h1 t.edges.length
    omega
  · simp
theorem after_len (t : Tp3) (s : St3) {ss : List St3} {D : DataW Unit} (hl : t.edges.length ≤ 100) (hD : SetM D (folB t s)) (hS : ss.Nodup ∧ ∀ x, x ∈ ss ↔ (wfS x ∧ has D (stK x) = true)) : ss.length ≤ 1048576 := by
  have hn : (afterL t s).Nodup := (after_up t s).imp fun h => (befS_irr h).1
  have hp : ss.Perm (afterL t s) := (List.perm_ext_iff_of_nodup hS.1 hn).2 fun x => by
    rw [hS.2 x, ← fol_iff]
    constructor
    · rintro ⟨h1, h2⟩
      rwa [hD.mem x h1] at h2
    · intro h
      have hw : wfS x := wfS_of (after_mem.1 (fol_iff.1 h)).2.1 hl
      exact ⟨hw, by rw [hD.mem x hw]; exact h⟩
  have := after_le13 t s hl
  have := hp.length_eq
  omega

set_option maxRecDepth 100000 in
set_option maxHeartbeats 4000000 in
theorem otp_after (t : Tp3) (a : TpA) (s : St3) (w : World) (ht : TopR w t a) (hl : lightT t = true) : Calls Try.prog 28 #[.agg (tpC t a), .agg (stA13 s)] w fun e w' => ∃ A c, e = .returned (.slice A (afterL t s).length c) ∧ SlO stC 2 w' A (afterL t s).length c (afterL t s) ∧ Below w.heap.size w w' := by
  have hn := light_nums13 hl
  obtain ⟨wa, hwa⟩ : ∃ wa, (w.alloc (.cells (tpC t a) 27)).alloc (.cells (stA13 s) 45) = wa := ⟨_, rfl⟩
  have hbwa : Below w.heap.size w wa := by rw [← hwa]; exact ((Below.refl _ _).alloc (Nat.le_refl _) _).alloc (by simp) _
  have h0 : Has wa (w.heap.size) 27 (tpC t a) := by rw [← hwa]; exact ((Has.made _ _ _).beside _)
  have h1 : Has wa (w.heap.size + 1) 45 (stA13 s) := by rw [← hwa]; exact (has_at11 (by simp))
  have HWA := Lib.hid hwa; have HBWA := Lib.hid hbwa
  have H0 := Lib.hid h0; have H1 := Lib.hid h1
  have HL := Lib.hid hn.1; have HJ := Lib.hid hn.2.1
  have HF := Lib.hid (otfol_any t a s wa (ht.under hbwa) hn.1 (by omega))
  clear hwa hbwa h0 h1 ht hn
  go_enter Try.func28, Try.ntmps28
  go_upto_region 1 with fail
  rw [HWA.out]
  clear HWA
  go_wp2_with (first | (with_reducible refine wpList_load_row (o := ⟨some 5, _, _, _, _, _⟩) rfl 27 _ rfl (w.heap.size) rfl 27 (tpC t a) (0, 0) _ (H0.out).raw11 Try.underlying27 rfl (by kernel_rfl) ?_) | (with_reducible refine wpList_load_row (o := ⟨some 6, _, _, _, _, _⟩) rfl 45 _ rfl (w.heap.size + 1) rfl 45 (stA13 s) (0, 0) _ (H1.out).raw11 Try.underlying45 rfl (by kernel_rfl) ?_))
  refine HF.out.mono ?_
  rintro e w1 ⟨bm, n, D, rfl, hn, HO, HD, _, hb1⟩
  have HB1 := Lib.hid (HBWA.out.trans (hb1.mono HBWA.out.size))
  have HNN := Lib.hid hn
  clear hb1 hn HF H0 H1 HBWA
  go_wp2_with fail
  refine (otkeys_any _ _).mono ?_
  rintro e w2 ⟨rfl, rfl⟩
  obtain ⟨w2, hw2⟩ : ∃ w2, w1.alloc (.cells #[.map (some bm)] 78) = w2 := ⟨_, rfl⟩
  rw [hw2]
  have hb2 : Below w1.heap.size w1 w2 := by rw [← hw2]; exact (Below.refl _ _).alloc (Nat.le_refl _) _
  have hm2 : Has w2 w1.heap.size 78 #[.map (some bm)] := by rw [← hw2]; exact Has.made _ _ _
  have HB2 := Lib.hid (HB1.out.trans (hb2.mono HB1.out.size))
  have HSEQ := Lib.hid (otkeys_stops 3 (by omega) w1.heap.size bm n D w2 hm2 (HO.out.kept (only_below hb2 (Nat.le_refl _) none) (by simp)))
  have HSO := Lib.hid (otsorted_any 66 #[.pointer (some ⟨w1.heap.size, 0, none⟩)] _ (Go.Maps.size D) (by have h1 := HO.out.size_le; have h2 := HNN.out; have h3 := HJ.out; omega) (fun ss h => after_len t s HL.out HD.out h) w2 (enters_of Try.func66 (by kernel_rfl) rfl) HSEQ.out)
  clear hw2 hb2 hm2 HSEQ
  go_wp2_with fail
  refine HSO.out.mono ?_
  rintro e w3 ⟨A, c, l, rfl, HSL, HPE, HPW, hb3⟩
  have HB3 := Lib.hid (HB2.out.trans (hb3.mono HB2.out.size))
  obtain rfl : l = afterL t s := by
    obtain ⟨ss, hS, hp⟩ := HPE.out
    exact after_is HL.out HD.out hS hp HPW.out
  clear hb3 HSO
  go_wp2
  go_ret
  exact ⟨A, c, rfl, HSL.out, HB3.out⟩
end Go.Proofs.Ytfchmjldhefmkaa
