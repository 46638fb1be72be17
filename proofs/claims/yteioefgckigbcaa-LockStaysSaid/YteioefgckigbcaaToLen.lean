/-
  package topo as landed: isWay, Length.
-/
import Derived.Test.YteioefgckigbcaaToFolIff

import Derived.Test.YteioefgckigbcaaToC

import Derived.BigQuiet

import Derived.IntWalk

namespace Go.Proofs.Yteioefgckigbcaa

open Go.RowKit

open Go.Great

open Go.Maps (has)
set_option maxRecDepth 100000 in
theorem bool_inv13 {v : Value} {z : DataW Unit × List MemPlace} (h : plainElem Try.prog 4 v = some z) : ∃ b, v = .bool b ∧ z = (.lit (.bool b), []) := by
  unfold plainElem at h
  rw [Try.underlying4] at h
  cases v <;> simp at h
  exact ⟨_, rfl, h.symm⟩
set_option maxRecDepth 100000 in
theorem map_look13 {W : World} {bm n : Nat} {D : DataW Unit} {p : St3 → Bool} {x : St3} (h : W.ownsMap Try.prog 75 (plainElem Try.prog 4) bm n D) (hD : SetM D p) (hx : wfS x) :
    (Instr.lookup 130 (.map (some bm)) (.agg #[.int .i64 x.edge, .bool x.rev]) false).run Try.prog W = .ok (.bool (p x)) W := by
  obtain ⟨v, ps, hr, hv⟩ := h.lookup keyed13 Try.underlying130 (z := .bool false) (by kernel_rfl) (plainElem_bool Try.underlying4 false) (keyOf_st hx)
  obtain ⟨b, rfl, hz⟩ := bool_inv13 hv
  have h1 : D.atKey (stK x) (.lit (.bool false)) = .lit (.bool b) := congrArg Prod.fst hz
  rw [hD.tr, hD.mem x hx] at h1
  cases h1
  exact hr
theorem fol_may {t : Tp3} {a b : St3} (ha : edgeB t a.edge = true) (hb : edgeB t b.edge = true) : folB t a b = mayT t a b := by
  rw [Bool.eq_iff_iff, fol_iff, after_mem]
  exact ⟨fun h => h.2.2, fun h => ⟨ha, hb, h⟩⟩

set_option maxRecDepth 100000 in
set_option maxHeartbeats 8000000 in
theorem otway_any (t : Tp3) (a : TpA) (path : List St3) (A : Option Addr) (n c : Nat) (w : World) (ht : TopR w t a) (hp : SlO stC 2 w A n c path) (hn : n ≤ 1048576) (hn1 : 1 ≤ n) (hl : t.edges.length ≤ 100) (hj : t.joints.length ≤ 100) (hall : ∀ s ∈ path, edgeB t s.edge = true) :
    Calls Try.prog 63 #[.agg (tpC t a), .slice A n c] w fun e w' => e = .returned (.bool (wayB t path)) ∧ Below w.heap.size w w' := by
  obtain ⟨wa, hwa⟩ : ∃ wa, w.alloc (.cells (tpC t a) 27) = wa := ⟨_, rfl⟩
  have hbwa : Below w.heap.size w wa := by rw [← hwa]; exact (Below.refl _ _).alloc (Nat.le_refl _) _
  have h0 : Has wa (w.heap.size) 27 (tpC t a) := by rw [← hwa]; exact (Has.made _ _ _)
  have HWA := Lib.hid hwa; have HBWA := Lib.hid hbwa
  have H0 := Lib.hid (fun W (hW : Below wa.heap.size wa W) => h0.under hW h0.lt)
  have HT := Lib.hid (fun W (hW : Below w.heap.size w W) => ht.under hW)
  have HP := Lib.hid (fun W (hW : Below w.heap.size w W) => hp.under hW)
  have HBA := Lib.hid (fun W (hW : Below wa.heap.size wa W) => hbwa.trans (hW.mono hbwa.size))
  have HLN := Lib.hid hp.1
  have HALL := Lib.hid hall; have HL := Lib.hid hl; have HJ := Lib.hid hj
  obtain ⟨rb, hrb⟩ : ∃ r, wayB t path = r := ⟨_, rfl⟩
  have HRB := Lib.hid hrb
  rw [hrb]
  clear hwa hbwa h0 ht hp hall hl hj hrb
  go_enter Try.func63, Try.ntmps63
  go_upto_region 1 with fail
  rw [HWA.out]
  clear HWA
  go_wp2
  go_loopg [5] n (fun kk v wl => ∃ m : Nat, 1 ≤ m ∧ m ≤ n ∧ n - m ≤ kk ∧ v = .int .i64 m ∧ Hid (∀ k a b, k + 1 < m → path[k]? = some a → path[k + 1]? = some b → mayT t a b = true) ∧ Below wa.heap.size wa wl)
  case atStart => exact ⟨1, by omega, hn1, by omega, rfl, Lib.hid (fun k a b h => absurd h (by omega)), Below.refl _ _⟩
  case round =>
    obtain ⟨m, hm1, hm, hmk, rfl, HMA, hwm⟩ := hrel
    have HWM := Lib.hid hwm
    have HNN := Lib.hid hn
    by_cases hml : m < n
    rotate_left
    · obtain rfl : m = n := by omega
      have x1 : ¬ (m : Int) < m := by omega
      have HF : Hid (rb = true) := Lib.hid (by rw [← HRB.out]; exact way_at.2 fun k a b ha hb => HMA.out k a b (by have h1_ := (List.getElem?_eq_some_iff.1 hb).1; have h2_ := HLN.out; omega) ha hb)
      clear hm hmk hwm
      go_wp2
      go_ret
      exact ⟨by rw [HF.out]; rfl, HBA.out _ HWM.out⟩
    obtain ⟨x, hx⟩ : ∃ x, path[m - 1]? = some x := ⟨_, List.getElem?_eq_getElem (by have := HLN.out; omega)⟩
    obtain ⟨y, hy⟩ : ∃ y, path[m]? = some y := ⟨_, List.getElem?_eq_getElem (by have := HLN.out; omega)⟩
    have HX := Lib.hid hx
    have HY := Lib.hid hy
    have HEX := Lib.hid (HALL.out x (List.mem_of_getElem? hx)); have HEY := Lib.hid (HALL.out y (List.mem_of_getElem? hy))
    have HWY := Lib.hid (wfS_of HEY.out HL.out)
    obtain ⟨bk, off, rfl, -, -⟩ := (HP.out w (Below.refl _ _)).step hx
    have HCX := Lib.hid (fun W (hW : Below w.heap.size w W) => (show W.cell? ⟨bk, off + (m - 1) * 2, none⟩ = some (.int .i64 x.edge) ∧ W.cell? ⟨bk, off + (m - 1) * 2 + 1, none⟩ = some (.bool x.rev) from by obtain ⟨b_, o_, e_, h1_, h2_⟩ := (HP.out W hW).step hx; injection e_ with e_; injection e_ with e1_ e2_ _; subst e1_ e2_; exact ⟨h1_, h2_⟩))
    have HCY := Lib.hid (fun W (hW : Below w.heap.size w W) => (show W.cell? ⟨bk, off + m * 2, none⟩ = some (.int .i64 y.edge) ∧ W.cell? ⟨bk, off + m * 2 + 1, none⟩ = some (.bool y.rev) from by obtain ⟨b_, o_, e_, h1_, h2_⟩ := (HP.out W hW).step hy; injection e_ with e_; injection e_ with e1_ e2_ _; subst e1_ e2_; exact ⟨h1_, h2_⟩))
    obtain ⟨bq, hbq⟩ : ∃ b, mayT t x y = b := ⟨_, rfl⟩
    have HBQ := Lib.hid hbq
    have HFQ := Lib.hid (show folB t x y = bq from (fol_may HEX.out HEY.out).trans hbq)
    have hw1 : IntKind.i64.wrap ((m : Int) - 1) = (m : Int) - 1 := by rw [IntKind.wrap_i64]; omega
    have hw2 : ((m : Int) - 1).toNat = m - 1 := by omega
    have y0 : (0 : Int) ≤ (m : Int) - 1 := by omega
    have y1 : (m : Int) - 1 < n := by omega
    have y2 : (0 : Int) ≤ (m : Int) := by omega
    have y4 : (1 : Int) ≤ (m : Int) := by omega
    have y3 : (m : Int) < n := by omega
    clear hx hy hwm hbq
    go_upto_region 4 with fail
    refine wp_region_held_drew (S := (fun W_ => Has W_ (w.heap.size) 27 (tpC t a) ∧ Below wr.heap.size wr W_)) (by kernel_rfl) ?_ (fun hHeld => ?_)
    · exact ⟨(H0.out _ HWM.out).draw, below_dr11 (Below.refl _ _)⟩
    refine wpAnyH_take (i := 0) (oi := ⟨some 12, _, _, _, _, _⟩) (v := .agg (tpC t a)) rfl (by kernel_rfl) (by kernel_rfl) (by kernel_rfl) (fun _ _ _ h => h) (yields_load_row11 27 _ rfl (w.heap.size) rfl 27 (tpC t a) _ (fun _ ⟨h_, _⟩ => h_) Try.underlying27 rfl (by kernel_rfl) (by rfl)) (by assumption) ?_
    simp only [Act.put, List.setIfInBounds_toArray, List.set_cons_zero, List.set_cons_succ]
    refine wpAnyH_take (i := 1) (oi := ⟨some 13, _, _, _, _, _⟩) (v := ?_) rfl (by kernel_rfl) (by kernel_rfl) (by kernel_rfl) (fun _ _ _ h => h) (Or.inl ⟨by rfl, ?_⟩) (by assumption) ?_
    rotate_left
    · intro w_ hSw; (try dsimp only at hSw); go_simp <;> with_reducible rfl
    simp only [Act.put, List.setIfInBounds_toArray, List.set_cons_zero, List.set_cons_succ]
    refine wpAnyH_take (i := 2) (oi := ⟨some 14, _, _, _, _, _⟩) (v := ?_) rfl (by kernel_rfl) (by kernel_rfl) (by kernel_rfl) (fun _ _ _ h => h) (Or.inl ⟨by rfl, ?_⟩) (by assumption) ?_
    rotate_left
    · intro w_ hSw; (try dsimp only at hSw); go_simp <;> with_reducible rfl
    simp only [Act.put, List.setIfInBounds_toArray, List.set_cons_zero, List.set_cons_succ]
    refine wpAnyH_take (i := 3) (oi := ⟨some 15, _, _, _, _, _⟩) (v := ?_) rfl (by kernel_rfl) (by kernel_rfl) (by kernel_rfl) (fun _ _ _ h => h) (Or.inl ⟨by rfl, ?_⟩) (by assumption) ?_
    rotate_left
    · intro w_ hSw; (try dsimp only at hSw); go_simp <;> with_reducible rfl
    simp only [Act.put, List.setIfInBounds_toArray, List.set_cons_zero, List.set_cons_succ]
    refine wpAnyH_take (i := 4) (oi := ⟨some 16, _, _, _, _, _⟩) (v := ?_) rfl (by kernel_rfl) (by kernel_rfl) (by kernel_rfl) (fun _ _ _ h => h) (Or.inl ⟨by rfl, ?_⟩) (by assumption) ?_
    rotate_left
    · intro w_ hSw; (try dsimp only at hSw); go_simp <;> with_reducible rfl
    simp only [Act.put, List.setIfInBounds_toArray, List.set_cons_zero, List.set_cons_succ]
    refine wpAnyH_take (i := 5) (oi := ⟨some 17, _, _, _, _, _⟩) (v := ?_) rfl (by kernel_rfl) (by kernel_rfl) (by kernel_rfl) (fun _ _ _ h => h) (Or.inl ⟨by rfl, ?_⟩) (by assumption) ?_
    rotate_left
    · intro w_ hSw; (try dsimp only at hSw); obtain ⟨cx0_, cx1_⟩ := HCX.out w_ (HBA.out w_ (HWM.out.trans (hSw.2.mono HWM.out.size))); go_simp <;> with_reducible rfl
    simp only [Act.put, List.setIfInBounds_toArray, List.set_cons_zero, List.set_cons_succ]
    refine wpAnyH_take (i := 7) (oi := ⟨some 19, _, _, _, _, _⟩) (v := ?_) rfl (by kernel_rfl) (by kernel_rfl) (by kernel_rfl) (fun _ _ _ h => h) (Or.inl ⟨by rfl, ?_⟩) (by assumption) ?_
    rotate_left
    · intro w_ hSw; (try dsimp only at hSw); go_simp <;> with_reducible rfl
    simp only [Act.put, List.setIfInBounds_toArray, List.set_cons_zero, List.set_cons_succ]
    refine wpAnyH_take (i := 8) (oi := ⟨some 20, _, _, _, _, _⟩) (v := ?_) rfl (by kernel_rfl) (by kernel_rfl) (by kernel_rfl) (fun _ _ _ h => h) (Or.inl ⟨by rfl, ?_⟩) (by assumption) ?_
    rotate_left
    · intro w_ hSw; (try dsimp only at hSw); go_simp <;> with_reducible rfl
    simp only [Act.put, List.setIfInBounds_toArray, List.set_cons_zero, List.set_cons_succ]
    refine wpAnyH_take (i := 9) (oi := ⟨some 21, _, _, _, _, _⟩) (v := ?_) rfl (by kernel_rfl) (by kernel_rfl) (by kernel_rfl) (fun _ _ _ h => h) (Or.inl ⟨by rfl, ?_⟩) (by assumption) ?_
    rotate_left
    · intro w_ hSw; (try dsimp only at hSw); go_simp <;> with_reducible rfl
    simp only [Act.put, List.setIfInBounds_toArray, List.set_cons_zero, List.set_cons_succ]
    refine wpAnyH_take (i := 10) (oi := ⟨some 22, _, _, _, _, _⟩) (v := ?_) rfl (by kernel_rfl) (by kernel_rfl) (by kernel_rfl) (fun _ _ _ h => h) (Or.inl ⟨by rfl, ?_⟩) (by assumption) ?_
    rotate_left
    · intro w_ hSw; (try dsimp only at hSw); obtain ⟨cy0_, cy1_⟩ := HCY.out w_ (HBA.out w_ (HWM.out.trans (hSw.2.mono HWM.out.size))); go_simp <;> with_reducible rfl
    simp only [Act.put, List.setIfInBounds_toArray, List.set_cons_zero, List.set_cons_succ]
    refine wpAnyH_ready (rs := [6]) (by kernel_rfl) (by simp) ?_
    refine AllReadyH.cons (o := ⟨some 18, _, _, _, _, _⟩) rfl (fun K hK => ?_) ?_
    · go_simp
      obtain ⟨s0, s1⟩ := hHeld
      have hlo_ := HBA.out _ (HWM.out.trans (s1.mono HWM.out.size))
      refine (otfol_any t a x _ (HT.out _ hlo_) HL.out (by have := HJ.out; omega)).mono ?_
      rintro e_ vs ⟨bm, n2, D, rfl, hn2, HO, HD, _, hbs⟩
      go_wp2_with fail
      refine hK.out _ _ ?_ (fun hHeld => ?_)
      · exact ⟨s0.under hbs s0.lt, s1.trans (hbs.mono s1.size)⟩
      refine wpAnyH_more11 (T := (fun W_ => Has W_ (w.heap.size) 27 (tpC t a) ∧ Below wr.heap.size wr W_ ∧ World.ownsMap W_ Try.prog 75 (plainElem Try.prog 4) bm n2 D)) (fun _ ⟨s0, s1, s2⟩ => ⟨s0, s1⟩) ?_
      have hHeld2 : (fun W_ => Has W_ (w.heap.size) 27 (tpC t a) ∧ Below wr.heap.size wr W_ ∧ World.ownsMap W_ Try.prog 75 (plainElem Try.prog 4) bm n2 D) _ := ⟨s0.under hbs s0.lt, s1.trans (hbs.mono s1.size), HO.out⟩
      clear hHeld
      have hHeld := hHeld2
      clear hHeld2
      clear hK K s0 s1
      try simp only [Act.put, List.setIfInBounds_toArray, List.set_cons_zero, List.set_cons_succ]
      refine wpAnyH_take (i := 11) (oi := ⟨some 23, _, _, _, _, _⟩) (v := ?_) rfl (by kernel_rfl) (by kernel_rfl) (by kernel_rfl) (fun _ _ _ h => h) (Or.inl ⟨by rfl, ?_⟩) (by assumption) ?_
      rotate_left
      · intro w_ hSw; (try dsimp only at hSw); have q_ := map_look13 hSw.2.2 HD.out HWY.out; rw [HFQ.out] at q_; go_simp <;> with_reducible rfl
      simp only [Act.put, List.setIfInBounds_toArray, List.set_cons_zero, List.set_cons_succ]
      refine wpAnyH_take (i := 12) (oi := ⟨some 24, _, _, _, _, _⟩) (v := ?_) rfl (by kernel_rfl) (by kernel_rfl) (by kernel_rfl) (fun _ _ _ h => h) (Or.inl ⟨by rfl, ?_⟩) (by assumption) ?_
      rotate_left
      · intro w_ hSw; (try dsimp only at hSw); go_simp <;> with_reducible rfl
      simp only [Act.put, List.setIfInBounds_toArray, List.set_cons_zero, List.set_cons_succ]
      refine wpAnyH_done (by kernel_rfl) ?_ _
      clear hw1 hw2 y0 y1 y2 y3 y4
      cases bq with
      | false =>
        have HF : Hid (rb = false) := Lib.hid (by rw [← HRB.out]; cases h : wayB t path with
          | false => rfl
          | true => have h_ := way_at.1 h (m - 1) x y HX.out (by rw [show m - 1 + 1 = m by omega]; exact HY.out); rw [HBQ.out] at h_; cases h_)
        go_wp2
        go_ret
        exact ⟨by rw [HF.out]; rfl, HBA.out _ (HWM.out.trans (hHeld.2.1.mono HWM.out.size))⟩
      | true =>
        go_wp2
        go_roundg (gk - 1)
        case measure => omega
        case rel =>
          refine ⟨m + 1, by omega, by omega, by omega, by go_num, Lib.hid (fun k a' b' hk ha hb => ?_), HWM.out.trans (hHeld.2.1.mono HWM.out.size)⟩
          by_cases hkm : k + 1 = m
          · have e_ : k = m - 1 := by omega
            rw [e_, HX.out] at ha
            rw [hkm, HY.out] at hb
            injection ha with ha
            injection hb with hb
            rw [← ha, ← hb]
            exact HBQ.out
          · exact HMA.out k a' b' (by omega) ha hb
    exact AllReadyH.nil

set_option maxRecDepth 100000 in
set_option maxHeartbeats 8000000 in
theorem otp_length (t : Tp3) (a : TpA) (path : List St3) (A : Option Addr) (n c : Nat) (w : World) (ht : TopR w t a) (hp : SlO stC 2 w A n c path) (hn : n ≤ 1048576) (hl : lightT t = true) (hok : edgesOk t = true) : Calls Try.prog 42 #[.agg (tpC t a), .slice A n c] w fun e w' => e = .returned (.tuple #[.int .i64 (lenN t path), .int .i64 (lenE t path)]) ∧ Below w.heap.size w w' := by
  have hlg := light_nums13 hl
  obtain ⟨wa, hwa⟩ : ∃ wa, w.alloc (.cells (tpC t a) 27) = wa := ⟨_, rfl⟩
  have hbwa : Below w.heap.size w wa := by rw [← hwa]; exact (Below.refl _ _).alloc (Nat.le_refl _) _
  have h0 : Has wa (w.heap.size) 27 (tpC t a) := by rw [← hwa]; exact (Has.made _ _ _)
  have HWA := Lib.hid hwa; have HBWA := Lib.hid hbwa
  have H0 := Lib.hid (fun W (hW : Below wa.heap.size wa W) => h0.under hW h0.lt)
  have HT := Lib.hid (fun W (hW : Below w.heap.size w W) => ht.under hW)
  have HP := Lib.hid (fun W (hW : Below w.heap.size w W) => hp.under hW)
  have HBA := Lib.hid (fun W (hW : Below wa.heap.size wa W) => hbwa.trans (hW.mono hbwa.size))
  have HLN := Lib.hid hp.1
  have HOK := Lib.hid hok
  have HL := Lib.hid hlg.1; have HJ := Lib.hid hlg.2.1
  obtain ⟨rN, hrN⟩ : ∃ r, lenN t path = r := ⟨_, rfl⟩
  obtain ⟨rE, hrE⟩ : ∃ r, lenE t path = r := ⟨_, rfl⟩
  have HRN := Lib.hid hrN
  have HRE := Lib.hid hrE
  rw [hrN, hrE]
  have HWI := Lib.hid (fun W => otwithin_any n 1 40 W)
  obtain ⟨b1, hb1⟩ : ∃ b, withinB n 1 40 = b := ⟨_, rfl⟩
  rw [hb1] at HWI
  have HB1 : Hid (withinB n 1 40 = b1) := Lib.hid hb1
  have HEE := Lib.hid (fun W (hW : Below w.heap.size w W) => otedges_any t a path A n c W (hp.under hW) hn hlg.1)
  obtain ⟨b2, hb2⟩ : ∃ b, (path.all fun s => edgeB t s.edge) = b := ⟨_, rfl⟩
  rw [hb2] at HEE
  have HB2 := Lib.hid hb2
  have HNB := Lib.hid hn
  clear hwa hbwa h0 ht hp hok hrN hrE hl hlg hb1 hb2 hn
  cases b1 with
  | false =>
    go_enter Try.func42, Try.ntmps42
    go_upto_region 1 with fail
    rw [HWA.out]
    clear HWA
    go_wp2_with fail
    refine (HWI.out _).mono ?_
    rintro e w1 ⟨rfl, hw1⟩
    rw [hw1]
    clear hw1
    go_wp2
    go_ret2
    have hE : lenE t path = 1 := by unfold lenE; rw [if_pos (by have h_ := HB1.out; unfold withinB at h_; simp only [Bool.and_eq_false_iff, decide_eq_false_iff_not] at h_; have := HLN.out; omega)]
    have e1_ : rN = 0 := by rw [← HRN.out]; unfold lenN; rw [hE]; rfl
    have e2_ : rE = 1 := by rw [← HRE.out]; exact hE
    subst e1_ e2_
    exact ⟨rfl, HBWA.out⟩
  | true =>
    cases b2 with
    | false =>
      go_enter Try.func42, Try.ntmps42
      go_upto_region 1 with fail
      rw [HWA.out]
      clear HWA
      go_wp2_with fail
      refine (HWI.out _).mono ?_
      rintro e w1 ⟨rfl, hw1⟩
      rw [hw1]
      clear hw1
      go_wp2_with ((with_reducible refine at_slot11 15 ?_); refine wpList_load_rowW11 (o := ⟨some 15, _, _, _, _, _⟩) 27 _ rfl (by kernel_rfl) (w.heap.size) rfl 27 (tpC t a) (0, 0) _ ((H0.out _ (Below.refl _ _))).raw11 Try.underlying27 rfl (by kernel_rfl) ?_)
      refine (HEE.out _ HBWA.out).mono ?_
      rintro e w2 ⟨rfl, hbw2⟩
      have HB3 := Lib.hid (HBWA.out.trans (hbw2.mono HBWA.out.size))
      clear hbw2
      go_wp2
      go_ret2
      have hE : lenE t path = 1 := by unfold lenE; rw [if_neg (by have h_ := HB1.out; unfold withinB at h_; simp only [Bool.and_eq_true, decide_eq_true_eq] at h_; have := HLN.out; omega), HB2.out]; rfl
      have e1_ : rN = 0 := by rw [← HRN.out]; unfold lenN; rw [hE]; rfl
      have e2_ : rE = 1 := by rw [← HRE.out]; exact hE
      subst e1_ e2_
      exact ⟨rfl, HB3.out⟩
    | true =>
      go_enter Try.func42, Try.ntmps42
      go_upto_region 1 with fail
      rw [HWA.out]
      clear HWA
      go_wp2_with fail
      refine (HWI.out _).mono ?_
      rintro e w1 ⟨rfl, hw1⟩
      rw [hw1]
      clear hw1
      go_wp2_with ((with_reducible refine at_slot11 15 ?_); refine wpList_load_rowW11 (o := ⟨some 15, _, _, _, _, _⟩) 27 _ rfl (by kernel_rfl) (w.heap.size) rfl 27 (tpC t a) (0, 0) _ ((H0.out _ (Below.refl _ _))).raw11 Try.underlying27 rfl (by kernel_rfl) ?_)
      refine (HEE.out _ HBWA.out).mono ?_
      rintro e w2 ⟨rfl, hbw2⟩
      have HBW := Lib.hid hbw2
      have HALL : Hid (∀ s ∈ path, edgeB t s.edge = true) := Lib.hid (List.all_eq_true.1 HB2.out)
      have HNZ : Hid (1 ≤ n ∧ n ≤ 40) := Lib.hid (by have h_ := HB1.out; unfold withinB at h_; simp only [Bool.and_eq_true, decide_eq_true_eq] at h_; omega)
      have HWY := Lib.hid (otway_any t a path A n c w2 (HT.out _ (HBA.out _ hbw2)) (HP.out _ (HBA.out _ hbw2)) HNB.out HNZ.out.1 HL.out HJ.out HALL.out)
      obtain ⟨b3, hb3⟩ : ∃ b, wayB t path = b := ⟨_, rfl⟩
      rw [hb3] at HWY
      have HB3 := Lib.hid hb3
      clear hbw2 hb3
      go_wp2_with (with_reducible refine wpList_load_row (o := ⟨some 21, _, _, _, _, _⟩) rfl 27 _ rfl (w.heap.size) rfl 27 (tpC t a) (0, 0) _ ((H0.out _ HBW.out)).raw11 Try.underlying27 rfl (by kernel_rfl) ?_)
      refine HWY.out.mono ?_
      rintro e w3 ⟨rfl, hbw3⟩
      have HW3 := Lib.hid (HBW.out.trans (hbw3.mono HBW.out.size))
      clear hbw3 HWY HBW
      cases b3 with
      | false =>
        go_wp2
        go_ret2
        have hE : lenE t path = 141 := by unfold lenE; rw [if_neg (by have h_ := HB1.out; unfold withinB at h_; simp only [Bool.and_eq_true, decide_eq_true_eq] at h_; have := HLN.out; omega), HB2.out, if_pos rfl, HB3.out]; rfl
        have e1_ : rN = 0 := by rw [← HRN.out]; unfold lenN; rw [hE]; rfl
        have e2_ : rE = 141 := by rw [← HRE.out]; exact hE
        subst e1_ e2_
        exact ⟨rfl, HBA.out _ HW3.out⟩
      | true =>
        have HE0 : Hid (lenE t path = 0) := Lib.hid (by unfold lenE; rw [if_neg (by have h_ := HB1.out; unfold withinB at h_; simp only [Bool.and_eq_true, decide_eq_true_eq] at h_; have := HLN.out; omega), HB2.out, if_pos rfl, HB3.out]; rfl)
        clear HB1 HB2 HB3 HWI HEE
        go_wp2
        go_loopg [6, 27] n (fun kk v6 v27 wl => ∃ i : Nat, i ≤ n ∧ n - i ≤ kk ∧ v27 = .int .i64 i ∧ v6 = .int .i64 (sumT t (path.take i)) ∧ Hid (Below wa.heap.size wa wl))
        case atStart => exact ⟨0, by omega, by omega, rfl, by simp [sumT], HW3⟩
        case round =>
          obtain ⟨i, hi, hik, rfl, rfl, HWR⟩ := hrel
          by_cases hlt : i < n
          rotate_left
          · obtain rfl : i = n := by omega
            have x1 : ¬ (i : Int) < i := by omega
            have hti : path.take i = path := List.take_of_length_le (by have := HLN.out; omega)
            rw [hti]
            have HSM : Hid (rN = sumT t path ∧ rE = 0) := Lib.hid ⟨by rw [← HRN.out]; unfold lenN; rw [if_pos HE0.out], by rw [← HRE.out]; exact HE0.out⟩
            clear hti
            go_wp2
            go_ret2
            obtain ⟨e1_, e2_⟩ := HSM.out
            subst e1_ e2_
            exact ⟨rfl, HBA.out _ HWR.out⟩
          obtain ⟨x, hx⟩ : ∃ x, path[i]? = some x := ⟨_, List.getElem?_eq_getElem (by have := HLN.out; omega)⟩
          have HX := Lib.hid hx
          have hex := HALL.out x (List.mem_of_getElem? hx)
          have hed : 0 ≤ x.edge ∧ x.edge < t.edges.length := by have h_ := hex; unfold edgeB at h_; simpa using h_
          obtain ⟨e, hee⟩ : ∃ e : Nat, x.edge = e := ⟨x.edge.toNat, by omega⟩
          have hel : e < t.edges.length := by omega
          have HLA := Lib.hid (show lenAt t x = t.edges.getD e 0 from by unfold lenAt; rw [hee]; rfl)
          have HLB := Lib.hid (lenAt_ok HOK.out hex)
          obtain ⟨q, hq⟩ : ∃ q, t.edges.getD e 0 = q := ⟨_, rfl⟩
          have HSB := Lib.hid (sum_ok HOK.out (fun s hs => HALL.out s (List.mem_of_mem_take hs)) (path := path.take i))
          obtain ⟨sv, hsv⟩ : ∃ s, sumT t (path.take i) = s := ⟨_, rfl⟩
          have HSV := Lib.hid hsv
          simp only [hsv]
          have hl0 : (path.take i).length ≤ 40 := by have := HNZ.out; rw [List.length_take]; omega
          have hs : 0 ≤ sv ∧ sv ≤ 40000000 := by have h_ := HSB.out; rw [hsv] at h_; omega
          rw [hq] at HLA
          have hq2 : 1 ≤ q ∧ q ≤ 1000000 := by have h_ := HLB.out; rw [HLA.out] at h_; exact h_
          have hwr1 : IntKind.i64.wrap (sv + q) = sv + q := by rw [IntKind.wrap_i64]; omega
          have HQ := Lib.hid hq; have HHE := Lib.hid hee; have HEL := Lib.hid hel; have HRNG := Lib.hid hs; have HQ2 := Lib.hid hq2
          obtain ⟨bk, off, rfl, d0, d1⟩ := (HP.out _ (HBA.out _ HWR.out)).step hx
          rw [hee] at d0
          have y0 : (0 : Int) ≤ i := by omega
          have y1 : (i : Int) < n := by omega
          have y2 : (i : Int) < 40 := by have := HNZ.out; omega
          clear hx hex hed hee hel hq hsv hl0 hs
          go_upto_region 9 with fail
          obtain ⟨wb, hwb⟩ : ∃ wb, wr.alloc (.cells #[.int .i64 (e : Nat), .bool x.rev] 75) = wb := ⟨_, rfl⟩
          rw [hwb]
          have hbb : Below wr.heap.size wr wb := by rw [← hwb]; exact (Below.refl _ _).alloc (Nat.le_refl _) _
          have hH : Has wb wr.heap.size 75 #[.int .i64 (e : Nat), .bool x.rev] := by rw [← hwb]; exact Has.made _ _ _
          have HWB := Lib.hid (HWR.out.trans (hbb.mono HWR.out.size))
          have hc0 : wb.cell? ⟨wr.heap.size, 0, none⟩ = some (.int .i64 (e : Nat)) := hH.cell 0
          obtain ⟨be, oe, hae, ce⟩ := (HT.out _ (HBA.out _ HWB.out)).e.edge HEL.out
          have c0 := (H0.out _ HWB.out).cell 0
          have c0' : wb.cell? ⟨w.heap.size, 0, none⟩ = some (.slice (some ⟨be, oe, none⟩) t.edges.length a.ce) := by first | exact c0.trans (by rw [← hae]; rfl) | (rw [← hae]; exact c0)
          have z0 : (0 : Int) ≤ e := by omega
          have z1 : (e : Int) < t.edges.length := by have := HEL.out; omega
          rw [HQ.out] at ce
          obtain ⟨me, hme⟩ : ∃ m, t.edges.length = m := ⟨_, rfl⟩
          rw [hme] at c0' z1
          clear hwb hbb hH c0 hme hae d0 d1
          go_wp2
          go_roundg (gk - 1)
          case measure => omega
          case rel =>
            refine ⟨i + 1, by omega, by omega, by go_num, ?_, HWB⟩
            rw [List.take_add_one, HX.out, sum_app, HSV.out]
            show _ = Value.int .i64 (sv + (lenAt t x + 0))
            rw [HLA.out, Int.add_zero]

end Go.Proofs.Yteioefgckigbcaa
