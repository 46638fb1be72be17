/-
  linesidelaw13: among, TopoBack.
-/
import Derived.Test.YtkigdeohlomgiaaLawAwake13

import Derived.BigQuiet

import Derived.IntWalk

namespace Go.Proofs.Ytkigdeohlomgiaa

open Go.RowKit

open Go.Great

set_option maxRecDepth 100000 in
set_option maxHeartbeats 8000000 in
theorem among13_any (A : Option Addr) (n c : Nat) (l : List St3) (s : St3) (w : World) (ha : SlO stC 2 w A n c l) (hn : n ≤ 1048576) :
    Calls Try.prog 16 #[.slice A n c, .agg (stA13 s)] w fun e w' => e = .returned (.bool (amongB l s)) ∧ Below w.heap.size w w' := by
  obtain ⟨q, hq⟩ : ∃ q, amongB l s = q := ⟨_, rfl⟩
  have HQ := Lib.hid hq
  rw [hq]
  clear hq
  obtain ⟨wa, hwa⟩ : ∃ wa, w.alloc (.cells (stA13 s) 44) = wa := ⟨_, rfl⟩
  have hbwa : Below w.heap.size w wa := by rw [← hwa]; exact (Below.refl _ _).alloc (Nat.le_refl _) _
  have h0 : Has wa (w.heap.size) 44 (stA13 s) := by rw [← hwa]; exact (Has.made _ _ _)
  have HWA := Lib.hid hwa; have HBWA := Lib.hid hbwa
  have HA := Lib.hid (ha.under hbwa)
  have k0 : wa.cell? ⟨w.heap.size, 0, none⟩ = some (.int .i64 s.edge) := h0.cell 0
  have k1 : wa.cell? ⟨w.heap.size, 1, none⟩ = some (.bool s.rev) := h0.cell 1
  clear hwa hbwa h0 ha
  go_enter Try.func16, Try.ntmps16
  go_upto_region 1 with fail
  rw [HWA.out]
  clear HWA
  go_wp2
  go_loopg [5] n (fun kk v wl => ∃ i k : Nat, i ≤ n ∧ n - i ≤ kk ∧ v = .int .i64 i ∧ Hid (∀ (j : Nat) (y : St3), j < i → l[j]? = some y → eqS y s = false) ∧ wl = wa.drewN k)
  case atStart => exact ⟨0, 0, by omega, by omega, rfl, Lib.hid fun j y h => absurd h (by omega), rfl⟩
  case round =>
    obtain ⟨i, k, hi, hik, rfl, HEQ, rfl⟩ := hrel
    by_cases hlt : i < n
    rotate_left
    · have hqf : q = false := by
        rw [← HQ.out]
        unfold amongB
        rw [List.any_eq_false]
        intro y hy
        obtain ⟨m, hm, rfl⟩ := List.getElem_of_mem hy
        rw [HEQ.out m _ (by have := HA.out.1; omega) (List.getElem?_eq_getElem hm)]
        decide
      have x1 : ¬ (i : Int) < n := by omega
      go_wp2
      go_ret
      exact ⟨by first | rfl | (rw [hqf]; rfl) | rw [hqf], below_draws HBWA.out k⟩
    obtain ⟨x, hx⟩ : ∃ x, l[i]? = some x := ⟨_, List.getElem?_eq_getElem (by rw [HA.out.1]; omega)⟩
    have HX := Lib.hid hx
    obtain ⟨b1, o1, rfl, d0, d1⟩ := HA.out.step hx
    clear hx
    have y0 : (0 : Int) ≤ i := by omega
    have y1 : (i : Int) < n := by omega
    have q1 := eq_st13 x s
    obtain ⟨e1, he1⟩ : ∃ e, eqS x s = e := ⟨_, rfl⟩
    have HE := Lib.hid he1
    rw [he1] at q1
    clear he1
    unfold stA13 at q1
    go_upto_region 4 with fail
    cases e1 with
    | true =>
      go_quiet (fail)
      go_wp2
      go_ret
      have hqf : q = true := by
        rw [← HQ.out]
        unfold amongB
        rw [List.any_eq_true]
        exact ⟨x, List.mem_of_getElem? HX.out, HE.out⟩
      exact ⟨by first | rfl | (rw [hqf]; rfl) | rw [hqf], by first | exact below_draws HBWA.out _ | (rw [World.drewN_drewN]; exact below_draws HBWA.out _)⟩
    | false =>
      go_quiet (fail)
      go_wp2
      go_roundg (gk - 1)
      case measure => omega
      case rel =>
        refine ⟨i + 1, _, by omega, by omega, by go_num, Lib.hid (fun j y hj hy => ?_), by first | rfl | rw [World.drewN_drewN]⟩
        by_cases hji : j = i
        · rw [hji, HX.out] at hy
          injection hy with hy
          rw [← hy]
          exact HE.out
        · exact HEQ.out j y (by omega) hy

theorem after_len13 (t : Tp3) (s : St3) (h : t.edges.length ≤ 100) : (afterL t s).length ≤ 1048576 := by
  have h1 : ∀ n : Nat, ((List.range n).flatMap (stepsAt t s)).length ≤ 2 * n := by
    intro n
    induction n with
    | zero => simp
    | succ n ih =>
      have h2 : (stepsAt t s n).length ≤ 2 := by
        unfold stepsAt
        rw [List.length_append]
        have h3 : ∀ (p : Prop) [Decidable p] (x : St3), (if p then [x] else []).length ≤ 1 := by
          intro p _ x
          split <;> simp
        have := h3 (mayT t s ⟨n, false⟩ = true) ⟨n, false⟩
        have := h3 (mayT t s ⟨n, true⟩ = true) ⟨n, true⟩
        omega
      rw [List.range_succ, List.flatMap_append, List.length_append]
      simp only [List.flatMap_cons, List.flatMap_nil, List.append_nil]
      omega
  unfold afterL
  split
  · have := h1 t.edges.length
    omega
  · simp
set_option maxRecDepth 100000 in
set_option maxHeartbeats 8000000 in
theorem topoBack_walk (t : Tp3) (a : TpA) (x y : St3) (w : World) (ht : TopR w t a) (_ : t.joints.length ≤ a.cj) :
    Calls Try.prog 4 #[.agg (tpC t a), .agg (stA13 x), .agg (stA13 y)] w fun e w' => e = .returned (.bool true) ∧ Below w.heap.size w w' := by
  obtain ⟨wa, hwa⟩ : ∃ wa, ((w.alloc (.cells (tpC t a) 27)).alloc (.cells (stA13 x) 44)).alloc (.cells (stA13 y) 44) = wa := ⟨_, rfl⟩
  have hbwa : Below w.heap.size w wa := by rw [← hwa]; exact (((Below.refl _ _).alloc (Nat.le_refl _) _).alloc (by simp) _).alloc (by simp; omega) _
  have h0 : Has wa (w.heap.size) 27 (tpC t a) := by rw [← hwa]; exact (((Has.made _ _ _).beside _).beside _)
  have h1 : Has wa (w.heap.size + 1) 44 (stA13 x) := by rw [← hwa]; exact ((has_at11 (by simp)).beside _)
  have h2 : Has wa (w.heap.size + 1 + 1) 44 (stA13 y) := by rw [← hwa]; exact (has_at11 (by simp))
  have HWA := Lib.hid hwa; have HBWA := Lib.hid hbwa
  have H0 := Lib.hid (fun W (hW : Below wa.heap.size wa W) => h0.under hW h0.lt)
  have H1 := Lib.hid (fun W (hW : Below wa.heap.size wa W) => h1.under hW h1.lt)
  have H2 := Lib.hid (fun W (hW : Below wa.heap.size wa W) => h2.under hW h2.lt)
  have HT := Lib.hid (fun W (hW : Below w.heap.size w W) => ht.under hW)
  have HBA := Lib.hid (fun W (hW : Below wa.heap.size wa W) => hbwa.trans (hW.mono hbwa.size))
  clear hwa hbwa h0 h1 h2 ht
  obtain ⟨q, hq⟩ : ∃ q, lightT t = q := ⟨_, rfl⟩
  have HQ := Lib.hid hq
  clear hq
  go_enter Try.func4, Try.ntmps4
  go_upto_region 1 with fail
  rw [HWA.out]
  clear HWA
  go_wp2_with fail
  refine (awake13_any wa).mono ?_
  rintro e w1 ⟨rfl, hb1⟩
  have HB1 := Lib.hid hb1
  clear hb1
  go_wp2_with (with_reducible refine wpList_load_row (o := ⟨some 14, _, _, _, _, _⟩) rfl 27 _ rfl (w.heap.size) rfl 27 (tpC t a) (0, 0) _ ((H0.out w1 HB1.out)).raw11 Try.underlying27 rfl (by kernel_rfl) ?_)
  refine (rlight_any13 t a w1 (HT.out _ (HBA.out _ HB1.out))).mono ?_
  rw [HQ.out]
  rintro e w2 ⟨rfl, hb2⟩
  have HB2 := Lib.hid (HB1.out.trans (hb2.mono HB1.out.size))
  clear hb2 HB1
  have c0 : w2.cell? ⟨w.heap.size, 0, none⟩ = some (.slice a.ae t.edges.length a.ce) := (H0.out w2 HB2.out).cell 0
  have c1 : w2.cell? ⟨w.heap.size + 1, 0, none⟩ = some (.int .i64 x.edge) := (H1.out w2 HB2.out).cell 0
  have c2 : w2.cell? ⟨w.heap.size + 1, 1, none⟩ = some (.bool x.rev) := (H1.out w2 HB2.out).cell 1
  have c3 : w2.cell? ⟨w.heap.size + 1 + 1, 0, none⟩ = some (.int .i64 y.edge) := (H2.out w2 HB2.out).cell 0
  have c4 : w2.cell? ⟨w.heap.size + 1 + 1, 1, none⟩ = some (.bool y.rev) := (H2.out w2 HB2.out).cell 1
  cases q with
  | false =>
    go_wp2
    go_ret
    exact ⟨by first | rfl | simp, HBA.out _ HB2.out⟩
  | true =>
    by_cases z0 : x.edge < 0
    · go_wp2
      go_ret
      exact ⟨by first | rfl | simp, HBA.out _ HB2.out⟩
    have g0 : decide (x.edge < 0) = false := decide_eq_false z0
    by_cases z1 : y.edge < 0
    · go_wp2
      go_ret
      exact ⟨by first | rfl | simp, HBA.out _ HB2.out⟩
    have g1 : decide (y.edge < 0) = false := decide_eq_false z1
    by_cases z2 : (t.edges.length : Int) ≤ x.edge
    · go_wp2
      go_ret
      exact ⟨by first | rfl | simp, HBA.out _ HB2.out⟩
    have g2 : decide ((t.edges.length : Int) ≤ x.edge) = false := decide_eq_false z2
    by_cases z3 : (t.edges.length : Int) ≤ y.edge
    · go_wp2
      go_ret
      exact ⟨by first | rfl | simp, HBA.out _ HB2.out⟩
    have g3 : decide ((t.edges.length : Int) ≤ y.edge) = false := decide_eq_false z3
    have hex : edgeB t x.edge = true := by unfold edgeB; simp; omega
    have hey : edgeB t y.edge = true := by unfold edgeB; simp; omega
    have HBK := Lib.hid (among_back hex hey)
    clear hex hey
    obtain ⟨w4, hw4⟩ : ∃ w4, w2.alloc (.cells #[.int .i64 x.edge, .bool (!x.rev)] 44) = w4 := ⟨_, rfl⟩
    have hb4 : Below w2.heap.size w2 w4 := by rw [← hw4]; exact (Below.refl _ _).alloc (Nat.le_refl _) _
    have h4 : Has w4 w2.heap.size 44 (stA13 (revS x)) := by rw [← hw4]; exact Has.made _ _ _
    have HB4 := Lib.hid (HB2.out.trans (hb4.mono HB2.out.size))
    have H4 := Lib.hid h4
    have HW4 := Lib.hid hw4
    clear hb4 h4 hw4
    go_upto_region 6 with fail
    rw [HW4.out]
    clear HW4 c0 c1 c2 c3 c4 z0 z1 z2 z3 g0 g1 g2 g3
    have c3 : w4.cell? ⟨w.heap.size + 1 + 1, 0, none⟩ = some (.int .i64 y.edge) := (H2.out w4 HB4.out).cell 0
    have c4 : w4.cell? ⟨w.heap.size + 1 + 1, 1, none⟩ = some (.bool y.rev) := (H2.out w4 HB4.out).cell 1
    obtain ⟨w3, hw3⟩ : ∃ w3, w4.alloc (.cells #[.int .i64 y.edge, .bool (!y.rev)] 44) = w3 := ⟨_, rfl⟩
    have hb3 : Below w4.heap.size w4 w3 := by rw [← hw3]; exact (Below.refl _ _).alloc (Nat.le_refl _) _
    have HB3 := Lib.hid (HB4.out.trans (hb3.mono HB4.out.size))
    have H3 := Lib.hid (H4.out.under hb3 H4.out.lt)
    have h5 : Has w3 w4.heap.size 44 (stA13 (revS y)) := by rw [← hw3]; exact Has.made _ _ _
    have H5 := Lib.hid h5
    have HW3 := Lib.hid hw3
    clear hb3 h5 hw3 H4
    go_upto_region 7 with fail
    rw [HW3.out]
    clear HW3 c3 c4
    refine wp_region_held_drew (S := (fun W_ => Has W_ (w.heap.size) 27 (tpC t a) ∧ Has W_ (w.heap.size + 1) 44 (stA13 x) ∧ Has W_ (w.heap.size + 1 + 1) 44 (stA13 y) ∧ Has W_ (w2.heap.size) 44 (stA13 (revS x)) ∧ Has W_ (w4.heap.size) 44 (stA13 (revS y)) ∧ Below wa.heap.size wa W_)) (by kernel_rfl) ?_ (fun hHeld => ?_)
    · exact ⟨(H0.out _ HB3.out).draw, (H1.out _ HB3.out).draw, (H2.out _ HB3.out).draw, H3.out.draw, H5.out.draw, below_dr11 HB3.out⟩
    refine wpAnyH_take (i := 0) (oi := ⟨some 61, _, _, _, _, _⟩) (v := .agg (tpC t a)) rfl (by kernel_rfl) (by kernel_rfl) (by kernel_rfl) (fun _ _ _ h => h) (yields_load_row11 27 _ rfl (w.heap.size) rfl 27 (tpC t a) _ (fun _ ⟨h_, _, _, _, _, _⟩ => h_) Try.underlying27 rfl (by kernel_rfl) (by rfl)) (by assumption) ?_
    simp only [Act.put, List.setIfInBounds_toArray, List.set_cons_zero, List.set_cons_succ]
    refine wpAnyH_take (i := 1) (oi := ⟨some 62, _, _, _, _, _⟩) (v := .agg (stA13 x)) rfl (by kernel_rfl) (by kernel_rfl) (by kernel_rfl) (fun _ _ _ h => h) (yields_load_row11 44 _ rfl (w.heap.size + 1) rfl 44 (stA13 x) _ (fun _ ⟨_, h_, _, _, _, _⟩ => h_) Try.underlying44 rfl (by kernel_rfl) (by rfl)) (by assumption) ?_
    simp only [Act.put, List.setIfInBounds_toArray, List.set_cons_zero, List.set_cons_succ]
    refine wpAnyH_take (i := 3) (oi := ⟨some 64, _, _, _, _, _⟩) (v := .agg (stA13 y)) rfl (by kernel_rfl) (by kernel_rfl) (by kernel_rfl) (fun _ _ _ h => h) (yields_load_row11 44 _ rfl (w.heap.size + 1 + 1) rfl 44 (stA13 y) _ (fun _ ⟨_, _, h_, _, _, _⟩ => h_) Try.underlying44 rfl (by kernel_rfl) (by rfl)) (by assumption) ?_
    simp only [Act.put, List.setIfInBounds_toArray, List.set_cons_zero, List.set_cons_succ]
    refine wpAnyH_ready (rs := [2]) (by kernel_rfl) (by simp) ?_
    refine AllReadyH.cons (o := ⟨some 63, _, _, _, _, _⟩) rfl (fun K hK => ?_) ?_
    · go_simp
      obtain ⟨s0, s1, s2, s3, s4, s5⟩ := hHeld
      refine (otp_after t a x _ (HT.out _ (HBA.out _ s5)) HQ.out).mono ?_
      rintro e_ vs1 ⟨A1, c1, rfl, hs_, hbs⟩
      have HS1 := Lib.hid (fun W (hW : Below vs1.heap.size vs1 W) => hs_.under hW)
      clear hs_
      go_wp2_with fail
      refine hK.out _ _ ?_ (fun hHeld => ?_)
      · exact ⟨s0.under hbs s0.lt, s1.under hbs s1.lt, s2.under hbs s2.lt, s3.under hbs s3.lt, s4.under hbs s4.lt, s5.trans (hbs.mono s5.size)⟩
      refine wpAnyH_more11 (T := (fun W_ => Has W_ (w.heap.size) 27 (tpC t a) ∧ Has W_ (w.heap.size + 1) 44 (stA13 x) ∧ Has W_ (w.heap.size + 1 + 1) 44 (stA13 y) ∧ Has W_ (w2.heap.size) 44 (stA13 (revS x)) ∧ Has W_ (w4.heap.size) 44 (stA13 (revS y)) ∧ Below wa.heap.size wa W_ ∧ Below vs1.heap.size vs1 W_)) (fun _ ⟨s0, s1, s2, s3, s4, s5, s6⟩ => ⟨s0, s1, s2, s3, s4, s5⟩) ?_
      have hHeld2 : (fun W_ => Has W_ (w.heap.size) 27 (tpC t a) ∧ Has W_ (w.heap.size + 1) 44 (stA13 x) ∧ Has W_ (w.heap.size + 1 + 1) 44 (stA13 y) ∧ Has W_ (w2.heap.size) 44 (stA13 (revS x)) ∧ Has W_ (w4.heap.size) 44 (stA13 (revS y)) ∧ Below wa.heap.size wa W_ ∧ Below vs1.heap.size vs1 W_) _ := ⟨s0.under hbs s0.lt, s1.under hbs s1.lt, s2.under hbs s2.lt, s3.under hbs s3.lt, s4.under hbs s4.lt, s5.trans (hbs.mono s5.size), Below.refl _ _⟩
      clear hHeld
      have hHeld := hHeld2
      clear hHeld2
      clear hK K s0 s1 s2 s3 s4 s5
      try simp only [Act.put, List.setIfInBounds_toArray, List.set_cons_zero, List.set_cons_succ]
      refine wpAnyH_ready (rs := [4]) (by kernel_rfl) (by simp) ?_
      refine AllReadyH.cons (o := ⟨some 65, _, _, _, _, _⟩) rfl (fun K hK => ?_) ?_
      · go_simp
        obtain ⟨s0, s1, s2, s3, s4, s5, s6⟩ := hHeld
        refine (among13_any A1 _ c1 _ y _ (HS1.out _ s6) (after_len13 t _ (light_nums13 HQ.out).1)).mono ?_
        rintro e_ vt ⟨rfl, hbt⟩
        go_wp2_with fail
        refine hK.out _ _ ?_ (fun hHeld => ?_)
        · exact ⟨s0.under hbt s0.lt, s1.under hbt s1.lt, s2.under hbt s2.lt, s3.under hbt s3.lt, s4.under hbt s4.lt, s5.trans (hbt.mono s5.size), s6.trans (hbt.mono s6.size)⟩
        clear hK K s0 s1 s2 s3 s4 s5 s6
        try simp only [Act.put, List.setIfInBounds_toArray, List.set_cons_zero, List.set_cons_succ]
        refine wpAnyH_take (i := 5) (oi := ⟨some 11, _, _, _, _, _⟩) (v := ?_) rfl (by kernel_rfl) (by kernel_rfl) (by kernel_rfl) (fun _ _ _ h => h) (Or.inl ⟨by rfl, ?_⟩) (by assumption) ?_
        rotate_left
        · intro w_ hSw; (try dsimp only at hSw); go_simp <;> with_reducible rfl
        simp only [Act.put, List.setIfInBounds_toArray, List.set_cons_zero, List.set_cons_succ]
        refine wpAnyH_done (by kernel_rfl) ?_ _
        have HE := Lib.hid hHeld
        clear hHeld
        go_upto_region 8 with fail
        refine wp_region_held_drew (S := (fun W_ => Has W_ (w.heap.size) 27 (tpC t a) ∧ Has W_ (w.heap.size + 1) 44 (stA13 x) ∧ Has W_ (w.heap.size + 1 + 1) 44 (stA13 y) ∧ Has W_ (w2.heap.size) 44 (stA13 (revS x)) ∧ Has W_ (w4.heap.size) 44 (stA13 (revS y)) ∧ Below wa.heap.size wa W_)) (by kernel_rfl) ?_ (fun hHeld => ?_)
        · exact ⟨HE.out.1.draw, HE.out.2.1.draw, HE.out.2.2.1.draw, HE.out.2.2.2.1.draw, HE.out.2.2.2.2.1.draw, below_dr11 HE.out.2.2.2.2.2.1⟩
        refine wpAnyH_take (i := 0) (oi := ⟨some 66, _, _, _, _, _⟩) (v := .agg (tpC t a)) rfl (by kernel_rfl) (by kernel_rfl) (by kernel_rfl) (fun _ _ _ h => h) (yields_load_row11 27 _ rfl (w.heap.size) rfl 27 (tpC t a) _ (fun _ ⟨h_, _, _, _, _, _⟩ => h_) Try.underlying27 rfl (by kernel_rfl) (by rfl)) (by assumption) ?_
        simp only [Act.put, List.setIfInBounds_toArray, List.set_cons_zero, List.set_cons_succ]
        refine wpAnyH_take (i := 1) (oi := ⟨some 67, _, _, _, _, _⟩) (v := .agg (stA13 (revS y))) rfl (by kernel_rfl) (by kernel_rfl) (by kernel_rfl) (fun _ _ _ h => h) (yields_load_row11 44 _ rfl (w4.heap.size) rfl 44 (stA13 (revS y)) _ (fun _ ⟨_, _, _, _, h_, _⟩ => h_) Try.underlying44 rfl (by kernel_rfl) (by rfl)) (by assumption) ?_
        simp only [Act.put, List.setIfInBounds_toArray, List.set_cons_zero, List.set_cons_succ]
        refine wpAnyH_take (i := 3) (oi := ⟨some 69, _, _, _, _, _⟩) (v := .agg (stA13 (revS x))) rfl (by kernel_rfl) (by kernel_rfl) (by kernel_rfl) (fun _ _ _ h => h) (yields_load_row11 44 _ rfl (w2.heap.size) rfl 44 (stA13 (revS x)) _ (fun _ ⟨_, _, _, h_, _, _⟩ => h_) Try.underlying44 rfl (by kernel_rfl) (by rfl)) (by assumption) ?_
        simp only [Act.put, List.setIfInBounds_toArray, List.set_cons_zero, List.set_cons_succ]
        refine wpAnyH_ready (rs := [2]) (by kernel_rfl) (by simp) ?_
        refine AllReadyH.cons (o := ⟨some 68, _, _, _, _, _⟩) rfl (fun K hK => ?_) ?_
        · go_simp
          obtain ⟨s0, s1, s2, s3, s4, s5⟩ := hHeld
          refine (otp_after t a (revS y) _ (HT.out _ (HBA.out _ s5)) HQ.out).mono ?_
          rintro e_ vs2 ⟨A2, c2, rfl, hs_, hbs⟩
          have HS2 := Lib.hid (fun W (hW : Below vs2.heap.size vs2 W) => hs_.under hW)
          clear hs_
          go_wp2_with fail
          refine hK.out _ _ ?_ (fun hHeld => ?_)
          · exact ⟨s0.under hbs s0.lt, s1.under hbs s1.lt, s2.under hbs s2.lt, s3.under hbs s3.lt, s4.under hbs s4.lt, s5.trans (hbs.mono s5.size)⟩
          refine wpAnyH_more11 (T := (fun W_ => Has W_ (w.heap.size) 27 (tpC t a) ∧ Has W_ (w.heap.size + 1) 44 (stA13 x) ∧ Has W_ (w.heap.size + 1 + 1) 44 (stA13 y) ∧ Has W_ (w2.heap.size) 44 (stA13 (revS x)) ∧ Has W_ (w4.heap.size) 44 (stA13 (revS y)) ∧ Below wa.heap.size wa W_ ∧ Below vs2.heap.size vs2 W_)) (fun _ ⟨s0, s1, s2, s3, s4, s5, s6⟩ => ⟨s0, s1, s2, s3, s4, s5⟩) ?_
          have hHeld2 : (fun W_ => Has W_ (w.heap.size) 27 (tpC t a) ∧ Has W_ (w.heap.size + 1) 44 (stA13 x) ∧ Has W_ (w.heap.size + 1 + 1) 44 (stA13 y) ∧ Has W_ (w2.heap.size) 44 (stA13 (revS x)) ∧ Has W_ (w4.heap.size) 44 (stA13 (revS y)) ∧ Below wa.heap.size wa W_ ∧ Below vs2.heap.size vs2 W_) _ := ⟨s0.under hbs s0.lt, s1.under hbs s1.lt, s2.under hbs s2.lt, s3.under hbs s3.lt, s4.under hbs s4.lt, s5.trans (hbs.mono s5.size), Below.refl _ _⟩
          clear hHeld
          have hHeld := hHeld2
          clear hHeld2
          clear hK K s0 s1 s2 s3 s4 s5
          try simp only [Act.put, List.setIfInBounds_toArray, List.set_cons_zero, List.set_cons_succ]
          refine wpAnyH_ready (rs := [4]) (by kernel_rfl) (by simp) ?_
          refine AllReadyH.cons (o := ⟨some 70, _, _, _, _, _⟩) rfl (fun K hK => ?_) ?_
          · go_simp
            obtain ⟨s0, s1, s2, s3, s4, s5, s6⟩ := hHeld
            refine (among13_any A2 _ c2 _ (revS x) _ (HS2.out _ s6) (after_len13 t _ (light_nums13 HQ.out).1)).mono ?_
            rintro e_ vt ⟨rfl, hbt⟩
            go_wp2_with fail
            refine hK.out _ _ ?_ (fun hHeld => ?_)
            · exact ⟨s0.under hbt s0.lt, s1.under hbt s1.lt, s2.under hbt s2.lt, s3.under hbt s3.lt, s4.under hbt s4.lt, s5.trans (hbt.mono s5.size), s6.trans (hbt.mono s6.size)⟩
            clear hK K s0 s1 s2 s3 s4 s5 s6
            try simp only [Act.put, List.setIfInBounds_toArray, List.set_cons_zero, List.set_cons_succ]
            refine wpAnyH_take (i := 5) (oi := ⟨some 12, _, _, _, _, _⟩) (v := ?_) rfl (by kernel_rfl) (by kernel_rfl) (by kernel_rfl) (fun _ _ _ h => h) (Or.inl ⟨by rfl, ?_⟩) (by assumption) ?_
            rotate_left
            · intro w_ hSw; (try dsimp only at hSw); go_simp <;> with_reducible rfl
            simp only [Act.put, List.setIfInBounds_toArray, List.set_cons_zero, List.set_cons_succ]
            refine wpAnyH_done (by kernel_rfl) ?_ _
            have HF := Lib.hid hHeld.2.2.2.2.2.1
            clear hHeld
            obtain ⟨b1, hb1⟩ : ∃ b1, amongB (afterL t x) y = b1 := ⟨_, rfl⟩
            have hb2 := HBK.out
            rw [hb1] at hb2
            rw [← hb2] at *
            simp only [hb1]
            cases b1 <;> (go_wp2; go_ret; exact ⟨by first | rfl | simp, HBA.out _ HF.out⟩)
          exact AllReadyH.nil
        exact AllReadyH.nil
      exact AllReadyH.nil
    exact AllReadyH.nil

end Go.Proofs.Ytkigdeohlomgiaa
