/-
  package topo as landed: checkJoint.
-/
import Derived.Test.YtfchmjldhefmkaaToChkA

import Derived.BigQuiet

import Derived.IntWalk

namespace Go.Proofs.Ytfchmjldhefmkaa

open Go.RowKit

open Go.Great

set_option maxRecDepth 100000 in
set_option maxHeartbeats 8000000 in
theorem otcj_any (t : Tp3) (a : TpA) (i : Nat) (j : Jt3) (w : World) (ht : TopR w t a) (hl : t.edges.length ≤ 100) (hjl : t.joints.length ≤ 100) (hcj : t.joints.length ≤ a.cj) (hj : t.joints[i]? = some j) :
    Calls Try.prog 53 #[.agg (tpC t a), .int .i64 i] w fun e w' => e = .returned (.int .i64 (jointE t i)) ∧ Below w.heap.size w w' := by
  obtain ⟨wa, hwa⟩ : ∃ wa, w.alloc (.cells (tpC t a) 27) = wa := ⟨_, rfl⟩
  have hbwa : Below w.heap.size w wa := by rw [← hwa]; exact (Below.refl _ _).alloc (Nat.le_refl _) _
  have h0 : Has wa (w.heap.size) 27 (tpC t a) := by rw [← hwa]; exact (Has.made _ _ _)
  have HWA := Lib.hid hwa; have HBWA := Lib.hid hbwa
  have hil := (List.getElem?_eq_some_iff.1 hj).1
  rw [jointE_at hj]
  obtain ⟨nj, hnj⟩ : ∃ n, t.joints.length = n := ⟨_, rfl⟩
  obtain ⟨AJ, hAJ⟩ : ∃ A, a.aj = A := ⟨_, rfl⟩
  have hjs : SlO jtC 4 w AJ nj a.cj t.joints := by rw [← hAJ, ← hnj]; exact ht.j
  obtain ⟨bk, off, rfl, -, -, -, -⟩ := hjs.joint hj
  have HJS := Lib.hid hjs
  have HCX := Lib.hid (fun W (hW : Below w.heap.size w W) => (show W.cell? ⟨bk, off + i * 4, none⟩ = some (.int .i64 j.a.1) ∧ W.cell? ⟨bk, off + i * 4 + 1, none⟩ = some (.int .i64 j.a.2) ∧ W.cell? ⟨bk, off + i * 4 + 2, none⟩ = some (.int .i64 j.b.1) ∧ W.cell? ⟨bk, off + i * 4 + 3, none⟩ = some (.int .i64 j.b.2) from by obtain ⟨b_, o_, e_, h_⟩ := (hjs.under hW).joint hj; injection e_ with e_; injection e_ with e1_ e2_ _; subst e1_ e2_; exact h_))
  have c1 : wa.cell? ⟨w.heap.size, 1, none⟩ = some (.slice (some ⟨bk, off, none⟩) nj a.cj) := by rw [← hnj, ← hAJ]; exact h0.cell 1
  have HC1 := Lib.hid (fun W (hW : Below wa.heap.size wa W) => (hW.cell (cell_block c1)).trans c1)
  have HBA := Lib.hid (fun W (hW : Below wa.heap.size wa W) => hbwa.trans (hW.mono hbwa.size))
  have HH0 := Lib.hid h0
  have HL := Lib.hid hl; have HJL : Hid (nj ≤ 100) := Lib.hid (by rw [← hnj]; exact hjl)
  have y0 : (0 : Int) ≤ i := by omega
  have y1 : (i : Int) < nj := by omega
  have y2 : (i : Int) ≤ a.cj := by omega
  have HIL : Hid (i < nj) := Lib.hid (by omega)
  have HCN := Lib.hid (fun W => otconn_any t a j W hl)
  have q1 := eq_end13 j.a j.b
  have HJE := join_eqJ (t.joints.take i) j
  obtain ⟨k1, hk1⟩ : ∃ b, (t.joints.take i).any (eqJ j) = b := ⟨_, rfl⟩
  obtain ⟨k2, hk2⟩ : ∃ b, (t.joints.take i).any (eqJ ⟨j.b, j.a⟩) = b := ⟨_, rfl⟩
  rw [hk1, hk2] at HJE
  have HOC1 := Lib.hid (fun W (hW : Below w.heap.size w W) => (octj_any (t.joints.take i) j (some ⟨bk, off, none⟩) i a.cj W ((hjs.under hW).take (fun _ => rfl) (by simp) (by omega)) (by omega)))
  have HOC2 := Lib.hid (fun W (hW : Below w.heap.size w W) => (octj_any (t.joints.take i) ⟨j.b, j.a⟩ (some ⟨bk, off, none⟩) i a.cj W ((hjs.under hW).take (fun _ => rfl) (by simp) (by omega)) (by omega)))
  rw [hk1] at HOC1
  rw [hk2] at HOC2
  have hce : (endB t j.a && endB t j.b) = connB t j := rfl
  rw [hce, ← HJE]
  obtain ⟨cn, hcn⟩ : ∃ b, connB t j = b := ⟨_, rfl⟩
  obtain ⟨eq, heq⟩ : ∃ b, eqE j.a j.b = b := ⟨_, rfl⟩
  rw [hcn, heq]
  rw [hcn] at HCN
  rw [heq] at q1
  clear hwa hbwa h0 ht hl hjl hcj hj hjs hil hnj hAJ hk1 hk2 hce hcn heq HJE c1
  obtain ⟨⟨j1, j2⟩, ⟨j3, j4⟩⟩ := j
  unfold jtA at HCN HOC1 HOC2
  unfold endA at q1
  dsimp only at *
  go_enter Try.func53, Try.ntmps53
  go_upto_region 1 with fail
  rw [HWA.out]
  clear HWA
  refine wp_region_held_drew (S := (fun W_ => Has W_ (w.heap.size) 27 (tpC t a) ∧ Below wa.heap.size wa W_)) (by kernel_rfl) ?_ (fun hHeld => ?_)
  · exact ⟨HH0.out.draw, below_dr11 (Below.refl _ _)⟩
  refine wpAnyH_take (i := 0) (oi := ⟨some 8, _, _, _, _, _⟩) (v := ?_) rfl (by kernel_rfl) (by kernel_rfl) (by kernel_rfl) (fun _ _ _ h => h) (Or.inl ⟨by rfl, ?_⟩) (by assumption) ?_
  rotate_left
  · intro w_ hSw; (try dsimp only at hSw); go_simp <;> with_reducible rfl
  simp only [Act.put, List.setIfInBounds_toArray, List.set_cons_zero, List.set_cons_succ]
  refine wpAnyH_take (i := 1) (oi := ⟨some 9, _, _, _, _, _⟩) (v := ?_) rfl (by kernel_rfl) (by kernel_rfl) (by kernel_rfl) (fun _ _ _ h => h) (Or.inl ⟨by rfl, ?_⟩) (by assumption) ?_
  rotate_left
  · intro w_ hSw; (try dsimp only at hSw); have c1_ := HC1.out w_ hSw.2; go_simp <;> with_reducible rfl
  simp only [Act.put, List.setIfInBounds_toArray, List.set_cons_zero, List.set_cons_succ]
  refine wpAnyH_take (i := 2) (oi := ⟨some 10, _, _, _, _, _⟩) (v := ?_) rfl (by kernel_rfl) (by kernel_rfl) (by kernel_rfl) (fun _ _ _ h => h) (Or.inl ⟨by rfl, ?_⟩) (by assumption) ?_
  rotate_left
  · intro w_ hSw; (try dsimp only at hSw); go_simp <;> with_reducible rfl
  simp only [Act.put, List.setIfInBounds_toArray, List.set_cons_zero, List.set_cons_succ]
  refine wpAnyH_take (i := 3) (oi := ⟨some 11, _, _, _, _, _⟩) (v := ?_) rfl (by kernel_rfl) (by kernel_rfl) (by kernel_rfl) (fun _ _ _ h => h) (Or.inl ⟨by rfl, ?_⟩) (by assumption) ?_
  rotate_left
  · intro w_ hSw; (try dsimp only at hSw); go_simp <;> with_reducible rfl
  simp only [Act.put, List.setIfInBounds_toArray, List.set_cons_zero, List.set_cons_succ]
  refine wpAnyH_take (i := 4) (oi := ⟨some 12, _, _, _, _, _⟩) (v := ?_) rfl (by kernel_rfl) (by kernel_rfl) (by kernel_rfl) (fun _ _ _ h => h) (Or.inl ⟨by rfl, ?_⟩) (by assumption) ?_
  rotate_left
  · intro w_ hSw; (try dsimp only at hSw); obtain ⟨cx0_, cx1_, cx2_, cx3_⟩ := HCX.out w_ (HBA.out w_ hSw.2); go_simp <;> with_reducible rfl
  simp only [Act.put, List.setIfInBounds_toArray, List.set_cons_zero, List.set_cons_succ]
  refine wpAnyH_take (i := 5) (oi := ⟨some 13, _, _, _, _, _⟩) (v := ?_) rfl (by kernel_rfl) (by kernel_rfl) (by kernel_rfl) (fun _ _ _ h => h) (Or.inl ⟨by rfl, ?_⟩) (by assumption) ?_
  rotate_left
  · intro w_ hSw; (try dsimp only at hSw); go_simp <;> with_reducible rfl
  simp only [Act.put, List.setIfInBounds_toArray, List.set_cons_zero, List.set_cons_succ]
  refine wpAnyH_take (i := 6) (oi := ⟨some 14, _, _, _, _, _⟩) (v := ?_) rfl (by kernel_rfl) (by kernel_rfl) (by kernel_rfl) (fun _ _ _ h => h) (Or.inl ⟨by rfl, ?_⟩) (by assumption) ?_
  rotate_left
  · intro w_ hSw; (try dsimp only at hSw); have c1_ := HC1.out w_ hSw.2; go_simp <;> with_reducible rfl
  simp only [Act.put, List.setIfInBounds_toArray, List.set_cons_zero, List.set_cons_succ]
  refine wpAnyH_take (i := 7) (oi := ⟨some 15, _, _, _, _, _⟩) (v := ?_) rfl (by kernel_rfl) (by kernel_rfl) (by kernel_rfl) (fun _ _ _ h => h) (Or.inl ⟨by rfl, ?_⟩) (by assumption) ?_
  rotate_left
  · intro w_ hSw; (try dsimp only at hSw); go_simp <;> with_reducible rfl
  simp only [Act.put, List.setIfInBounds_toArray, List.set_cons_zero, List.set_cons_succ]
  refine wpAnyH_take (i := 8) (oi := ⟨some 16, _, _, _, _, _⟩) (v := ?_) rfl (by kernel_rfl) (by kernel_rfl) (by kernel_rfl) (fun _ _ _ h => h) (Or.inl ⟨by rfl, ?_⟩) (by assumption) ?_
  rotate_left
  · intro w_ hSw; (try dsimp only at hSw); go_simp <;> with_reducible rfl
  simp only [Act.put, List.setIfInBounds_toArray, List.set_cons_zero, List.set_cons_succ]
  refine wpAnyH_ready (rs := [9]) (by kernel_rfl) (by simp) ?_
  refine AllReadyH.cons (o := ⟨some 5, _, _, _, _, _⟩) rfl (fun K hK => ?_) ?_
  · go_simp
    obtain ⟨s0, s1⟩ := hHeld
    obtain ⟨gx, hgx⟩ : ∃ gx, wa.heap.size = gx := ⟨_, rfl⟩
    have hgl : w.heap.size < gx := by rw [← hgx]; exact s0.lt
    have hgl2 : wa.heap.size ≤ gx := by rw [← hgx]; exact s1.size
    rw [hgx]
    refine hK.out _ _ ?_ (fun hHeld => ?_)
    · exact ⟨s0.beside _, below_al11 s1 _⟩
    refine wpAnyH_more11 (T := (fun W_ => Has W_ (w.heap.size) 27 (tpC t a) ∧ Below wa.heap.size wa W_ ∧ (∃ o_ : Array Value, Has W_ (gx) 73 o_ ∧ o_.size = 4))) (fun _ ⟨s0, s1, s2⟩ => ⟨s0, s1⟩) ?_
    have hHeld2 : (fun W_ => Has W_ (w.heap.size) 27 (tpC t a) ∧ Below wa.heap.size wa W_ ∧ (∃ o_ : Array Value, Has W_ (gx) 73 o_ ∧ o_.size = 4)) _ := ⟨s0.beside (.cells #[.int .i64 0, .int .i64 0, .int .i64 0, .int .i64 0] 73), below_al11 s1 (.cells #[.int .i64 0, .int .i64 0, .int .i64 0, .int .i64 0] 73), ⟨#[.int .i64 0, .int .i64 0, .int .i64 0, .int .i64 0], (by rw [← hgx]; exact Has.made _ _ _), by kernel_rfl⟩⟩
    clear hHeld
    have hHeld := hHeld2
    clear hHeld2 hK K hgx s0 s1
    try simp only [Act.put, List.setIfInBounds_toArray, List.set_cons_zero, List.set_cons_succ]
    refine wpAnyH_ready (rs := [10]) (by kernel_rfl) (by simp) ?_
    refine AllReadyH.cons (o := ⟨none, _, _, _, _, _⟩) rfl (fun K hK => ?_) ?_
    · rw [if_pos (by rfl)]
      obtain ⟨s0, s1, s2⟩ := hHeld
      obtain ⟨o_, h_, e_⟩ := s2
      refine wp_store_row 73 _ _ rfl (gx) #[.int .i64 j1, .int .i64 j2, .int .i64 j3, .int .i64 j4] (by rfl) (by rfl) 73 o_ h_.raw11 (by kernel_rfl) e_ (by kernel_rfl) ?_
      refine hK.out _ _ ?_ (fun hHeld => ?_)
      · exact ⟨has_rowo11 s0 (by omega) _, below_row s1 (by omega) _, ⟨_, has_row11 h_ #[.int .i64 j1, .int .i64 j2, .int .i64 j3, .int .i64 j4], by kernel_rfl⟩⟩
      refine wpAnyH_more11 (T := (fun W_ => Has W_ (w.heap.size) 27 (tpC t a) ∧ Below wa.heap.size wa W_ ∧ Has W_ (gx) 73 #[.int .i64 j1, .int .i64 j2, .int .i64 j3, .int .i64 j4])) (fun _ ⟨s0, s1, s2⟩ => ⟨s0, s1, ⟨_, s2, by kernel_rfl⟩⟩) ?_
      have hHeld2 : (fun W_ => Has W_ (w.heap.size) 27 (tpC t a) ∧ Below wa.heap.size wa W_ ∧ Has W_ (gx) 73 #[.int .i64 j1, .int .i64 j2, .int .i64 j3, .int .i64 j4]) _ := ⟨has_rowo11 s0 (by omega) _, below_row s1 (by omega) _, has_row11 h_ #[.int .i64 j1, .int .i64 j2, .int .i64 j3, .int .i64 j4]⟩
      clear hHeld
      have hHeld := hHeld2
      clear hHeld2 hK K h_ e_ s0 s1
      try simp only [Act.put]
      refine wpAnyH_take (i := 11) (oi := ⟨some 6, _, _, _, _, _⟩) (v := ?_) rfl (by kernel_rfl) (by kernel_rfl) (by kernel_rfl) (fun _ _ _ h => h) (Or.inl ⟨by rfl, ?_⟩) (by assumption) ?_
      rotate_left
      · intro w_ hSw; (try dsimp only at hSw); go_simp <;> with_reducible rfl
      simp only [Act.put, List.setIfInBounds_toArray, List.set_cons_zero, List.set_cons_succ]
      refine wpAnyH_done (by kernel_rfl) ?_ _
      obtain ⟨w2, hw2⟩ : ∃ w2, ((wa.alloc (.cells #[.int .i64 0, .int .i64 0, .int .i64 0, .int .i64 0] 73)).drew).setRow gx #[.int .i64 j1, .int .i64 j2, .int .i64 j3, .int .i64 j4] = w2 := ⟨_, rfl⟩
      have hS2 : Has w2 (w.heap.size) 27 (tpC t a) ∧ Below wa.heap.size wa w2 ∧ Has w2 (gx) 73 #[.int .i64 j1, .int .i64 j2, .int .i64 j3, .int .i64 j4] := by rw [← hw2]; exact hHeld
      rw [hw2]
      clear hw2
      have HS2 := Lib.hid hS2
      clear hHeld hS2
      have e0 : w2.cell? ⟨gx, 0, none⟩ = some (.int .i64 j1) := HS2.out.2.2.cell 0
      have e1 : w2.cell? ⟨gx, 1, none⟩ = some (.int .i64 j2) := HS2.out.2.2.cell 1
      have e2 : w2.cell? ⟨gx, 2, none⟩ = some (.int .i64 j3) := HS2.out.2.2.cell 2
      have e3 : w2.cell? ⟨gx, 3, none⟩ = some (.int .i64 j4) := HS2.out.2.2.cell 3
      clear y0 y1 y2
      go_upto_region 3 with fail
      obtain ⟨w3, hw3⟩ : ∃ w3, w2.alloc (.cells #[.int .i64 j3, .int .i64 j4, .int .i64 j1, .int .i64 j2] 73) = w3 := ⟨_, rfl⟩
      rw [hw3]
      have hb3 : Below w2.heap.size w2 w3 := by rw [← hw3]; exact (Below.refl _ _).alloc (Nat.le_refl _) _
      have hY3 : Has w3 w2.heap.size 73 #[.int .i64 j3, .int .i64 j4, .int .i64 j1, .int .i64 j2] := by rw [← hw3]; exact Has.made _ _ _
      have HY3 := Lib.hid hY3
      have HX3 := Lib.hid (HS2.out.2.2.under hb3 HS2.out.2.2.lt)
      have H03 := Lib.hid (HS2.out.1.under hb3 HS2.out.1.lt)
      have HB3 := Lib.hid (HS2.out.2.1.trans (hb3.mono HS2.out.2.1.size))
      obtain ⟨gy, hgy⟩ : ∃ g, w2.heap.size = g := ⟨_, rfl⟩
      rw [hgy] at HY3
      simp only [hgy]
      clear hw3 hb3 hY3 hgy e0 e1 e2 e3 HS2
      go_wp2_with (first | (with_reducible refine wpList_load_row (o := ⟨some 23, _, _, _, _, _⟩) rfl 27 _ rfl (w.heap.size) rfl 27 (tpC t a) (0, 0) _ (H03.out).raw11 Try.underlying27 rfl (by kernel_rfl) ?_) | (with_reducible refine wpList_load_row (o := ⟨some 24, _, _, _, _, _⟩) rfl 73 _ rfl (gx) rfl 73 #[.int .i64 j1, .int .i64 j2, .int .i64 j3, .int .i64 j4] (0, 0) _ (HX3.out).raw11 Try.underlying73 rfl (by kernel_rfl) ?_))
      refine (HCN.out _).mono ?_
      rintro e w4 ⟨rfl, hb4⟩
      have HX4 := Lib.hid (HX3.out.under hb4 HX3.out.lt)
      have HY4 := Lib.hid (HY3.out.under hb4 HY3.out.lt)
      have HB4 := Lib.hid (HB3.out.trans (hb4.mono HB3.out.size))
      have e0 : w4.cell? ⟨gx, 0, none⟩ = some (.int .i64 j1) := HX4.out.cell 0
      have e1 : w4.cell? ⟨gx, 1, none⟩ = some (.int .i64 j2) := HX4.out.cell 1
      have e2 : w4.cell? ⟨gx, 2, none⟩ = some (.int .i64 j3) := HX4.out.cell 2
      have e3 : w4.cell? ⟨gx, 3, none⟩ = some (.int .i64 j4) := HX4.out.cell 3
      clear hb4 HX3 HY3 HB3 H03 HCN
      cases cn with
      | false =>
        go_wp2
        go_ret
        exact ⟨rfl, HBA.out _ HB4.out⟩
      | true =>
        cases eq with
        | true =>
          go_wp2
          go_ret
          exact ⟨rfl, HBA.out _ HB4.out⟩
        | false =>
          have HOA := Lib.hid (HOC1.out w4 (HBA.out _ HB4.out))
          go_upto_region 5 with fail
          clear e0 e1 e2 e3 q1
          go_wp2_with (with_reducible refine wpList_load_row (o := ⟨some 36, _, _, _, _, _⟩) rfl 73 _ rfl (gx) rfl 73 #[.int .i64 j1, .int .i64 j2, .int .i64 j3, .int .i64 j4] (0, 0) _ (HX4.out).raw11 Try.underlying73 rfl (by kernel_rfl) ?_)
          refine HOA.out.mono ?_
          rintro e w5 ⟨rfl, hb5⟩
          have HB5 := Lib.hid (HB4.out.trans (hb5.mono HB4.out.size))
          have HY5 := Lib.hid (HY4.out.under hb5 HY4.out.lt)
          clear hb5 HOA HX4
          cases k1 with
          | true =>
            go_wp2
            go_ret
            exact ⟨rfl, HBA.out _ HB5.out⟩
          | false =>
            have HOB := Lib.hid (HOC2.out w5 (HBA.out _ HB5.out))
            go_wp2_with ((with_reducible refine at_slot11 40 ?_); refine wpList_load_rowW11 (o := ⟨some 40, _, _, _, _, _⟩) 73 _ rfl (by kernel_rfl) (gy) rfl 73 #[.int .i64 j3, .int .i64 j4, .int .i64 j1, .int .i64 j2] (0, 0) _ (HY5.out).raw11 Try.underlying73 rfl (by kernel_rfl) ?_)
            refine HOB.out.mono ?_
            rintro e w6 ⟨rfl, hb6⟩
            have HB6 := Lib.hid (HB5.out.trans (hb6.mono HB5.out.size))
            clear hb6 HOB HY5
            cases k2 with
            | true =>
              go_wp2
              go_ret
              exact ⟨rfl, HBA.out _ HB6.out⟩
            | false =>
              go_wp2
              go_ret
              exact ⟨rfl, HBA.out _ HB6.out⟩
    exact AllReadyH.nil
  exact AllReadyH.nil

end Go.Proofs.Ytfchmjldhefmkaa
