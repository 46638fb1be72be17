/-
  linesideref13, by contract: Length of any light track.
-/
import Derived.Test.YteioefgckigbcaaGreatTpRefB

import Derived.BigQuiet

import Derived.IntWalk

namespace Go.Proofs.YteioefgckigbcaaGreat

open Go.RowKit

open Go.Great

set_option maxRecDepth 100000 in
set_option maxHeartbeats 8000000 in
theorem rlength_e (t : Tp3) (a : TpA) (path : List St3) (A : Option Addr) (n c : Nat) (w : World) (ht : TopR w t a) (hp : SlO stC 2 w A n c path) (hn : n ≤ 1048576) (hj : t.joints.length ≤ 100) :
    Calls Tryz.prog 39 #[.agg (tpC t a), .slice A n c] w fun e w' => ∃ N : Int, e = .returned (.tuple #[.int .i64 N, .int .i64 (lenE t path)]) ∧ Below w.heap.size w w' := by
  obtain ⟨wa, hwa⟩ : ∃ wa, w.alloc (.cells (tpC t a) 27) = wa := ⟨_, rfl⟩
  have hbwa : Below w.heap.size w wa := by rw [← hwa]; exact (Below.refl _ _).alloc (Nat.le_refl _) _
  have h0 : Has wa (w.heap.size) 27 (tpC t a) := by rw [← hwa]; exact (Has.made _ _ _)
  have HWA := Lib.hid hwa; have HBWA := Lib.hid hbwa
  have H0 := Lib.hid (fun W (hW : Below wa.heap.size wa W) => h0.under hW h0.lt)
  have HT := Lib.hid (fun W (hW : Below w.heap.size w W) => ht.under hW)
  have HP := Lib.hid (fun W (hW : Below w.heap.size w W) => hp.under hW)
  have HBA := Lib.hid (fun W (hW : Below wa.heap.size wa W) => hbwa.trans (hW.mono hbwa.size))
  have HL := Lib.hid hp.1
  obtain ⟨rE, hrE⟩ : ∃ r, lenE t path = r := ⟨_, rfl⟩
  have HRE := Lib.hid hrE
  rw [hrE]
  clear hwa hbwa h0 ht hp hrE
  by_cases hz : n = 0
  · have x1 : (n : Int) = 0 := by omega
    go_enter Tryz.func39, Tryz.ntmps39
    skip
    go_wp2
    go_ret2
    have hE : rE = 1 := by rw [← HRE.out]; unfold lenE; rw [if_pos (by have := HL.out; omega)]
    subst hE
    first | exact ⟨_, rfl, by rw [HWA.out]; exact HBWA.out⟩ | exact ⟨⟨_, rfl⟩, by rw [HWA.out]; exact HBWA.out⟩
  by_cases hf : 40 < n
  · have x1 : ¬ (n : Int) = 0 := by omega
    have x2 : (40 : Int) < n := by omega
    go_enter Tryz.func39, Tryz.ntmps39
    go_wp2
    go_ret2
    have hE : rE = 1 := by rw [← HRE.out]; unfold lenE; rw [if_pos (by have := HL.out; omega)]
    subst hE
    first | exact ⟨_, rfl, by rw [HWA.out]; exact HBWA.out⟩ | exact ⟨⟨_, rfl⟩, by rw [HWA.out]; exact HBWA.out⟩
  have x1 : ¬ (n : Int) = 0 := by omega
  have x2 : ¬ (40 : Int) < n := by omega
  go_enter Tryz.func39, Tryz.ntmps39
  go_upto_region 3 with fail
  rw [HWA.out]
  clear HWA
  have HNZ := Lib.hid (show n ≠ 0 ∧ n ≤ 40 from ⟨hz, by omega⟩)
  have hz2 : ((n : Int) == 0) = false := by simp [hz]
  simp only [hz2]
  clear hz2
  clear x1 x2 hz hf
  go_wp2
  go_loopg [6, 7] n (fun kk v6 v7 wl => ∃ i : Nat, i ≤ n ∧ n - i ≤ kk ∧ v7 = .int .i64 i ∧ (∃ sv : Int, v6 = .int .i64 sv) ∧ Hid (∀ s ∈ path.take i, edgeB t s.edge = true) ∧ Below wa.heap.size wa wl)
  case atStart => exact ⟨0, by omega, by omega, rfl, ⟨0, rfl⟩, Lib.hid (by simp), Below.refl _ _⟩
  case round =>
    obtain ⟨i, hi, hik, rfl, ⟨sv, rfl⟩, HED, hwr⟩ := hrel
    have HWR := Lib.hid hwr
    by_cases hlt : i < n
    rotate_left
    · obtain rfl : i = n := by omega
      have x1 : ¬ (i : Int) < i := by omega
      have hti : path.take i = path := List.take_of_length_le (by have := HL.out; omega)
      have HALL : Hid (∀ s ∈ path, edgeB t s.edge = true) := Lib.hid (by have h_ := HED.out; rw [hti] at h_; exact h_)
      clear hti HED hi hik hwr
      go_upto_region 11 with fail
      clear x1
      go_wp2
      go_loopg [9] i (fun kk v wl => ∃ m : Nat, 1 ≤ m ∧ m ≤ i ∧ i - m ≤ kk ∧ v = .int .i64 m ∧ Hid (∀ k a b, k + 1 < m → path[k]? = some a → path[k + 1]? = some b → mayT t a b = true) ∧ Below wa.heap.size wa wl)
      case atStart => exact ⟨1, by omega, by have := HNZ.out; omega, by omega, rfl, Lib.hid (fun k a b h => absurd h (by omega)), HWR.out⟩
      case round =>
        obtain ⟨m, hm1, hm, hmk, rfl, HMA, hwm⟩ := hrel
        have HWM := Lib.hid hwm
        by_cases hml : m < i
        rotate_left
        · obtain rfl : m = i := by omega
          have x1 : ¬ (m : Int) < m := by omega
          clear hm hmk hwm
          go_wp2
          go_ret2
          have h0_ : lenE t path = 0 := (by unfold lenE; rw [if_neg (by have h1_ := HL.out; have h2_ := HNZ.out; omega), if_pos (List.all_eq_true.2 HALL.out), if_pos (way_at.2 fun k a b ha hb => HMA.out k a b (by have h1_ := (List.getElem?_eq_some_iff.1 hb).1; have h2_ := HL.out; omega) ha hb)])
          have hE : rE = 0 := by rw [← HRE.out]; exact h0_
          subst hE
          first | exact ⟨_, rfl, HBA.out _ HWM.out⟩ | exact ⟨⟨_, rfl⟩, HBA.out _ HWM.out⟩
        obtain ⟨x, hx⟩ : ∃ x, path[m - 1]? = some x := ⟨_, List.getElem?_eq_getElem (by have := HL.out; omega)⟩
        obtain ⟨y, hy⟩ : ∃ y, path[m]? = some y := ⟨_, List.getElem?_eq_getElem (by have := HL.out; omega)⟩
        have HX := Lib.hid hx
        have HY := Lib.hid hy
        obtain ⟨bk, off, rfl, -, -⟩ := (HP.out w (Below.refl _ _)).step hx
        have HCX := Lib.hid (fun W (hW : Below w.heap.size w W) => (show W.cell? ⟨bk, off + (m - 1) * 2, none⟩ = some (.int .i64 x.edge) ∧ W.cell? ⟨bk, off + (m - 1) * 2 + 1, none⟩ = some (.bool x.rev) from by obtain ⟨b_, o_, e_, h1_, h2_⟩ := (HP.out W hW).step hx; injection e_ with e_; injection e_ with e1_ e2_ _; subst e1_ e2_; exact ⟨h1_, h2_⟩))
        have HCY := Lib.hid (fun W (hW : Below w.heap.size w W) => (show W.cell? ⟨bk, off + m * 2, none⟩ = some (.int .i64 y.edge) ∧ W.cell? ⟨bk, off + m * 2 + 1, none⟩ = some (.bool y.rev) from by obtain ⟨b_, o_, e_, h1_, h2_⟩ := (HP.out W hW).step hy; injection e_ with e_; injection e_ with e1_ e2_ _; subst e1_ e2_; exact ⟨h1_, h2_⟩))
        obtain ⟨bq, hbq⟩ : ∃ b, mayT t x y = b := ⟨_, rfl⟩
        have HBQ := Lib.hid hbq
        have hw1 : IntKind.i64.wrap ((m : Int) - 1) = (m : Int) - 1 := by have := HNZ.out; rw [IntKind.wrap_i64]; omega
        have hw2 : ((m : Int) - 1).toNat = m - 1 := by omega
        have y0 : (0 : Int) ≤ (m : Int) - 1 := by omega
        have y1 : (m : Int) - 1 < i := by omega
        have y2 : (0 : Int) ≤ (m : Int) := by omega
        have y4 : (1 : Int) ≤ (m : Int) := by omega
        have y3 : (m : Int) < i := by omega
        clear hx hy hwm hbq
        go_upto_region 14 with fail
        refine wp_region_held_drew (S := (fun W_ => Has W_ (w.heap.size) 27 (tpC t a) ∧ Below wr.heap.size wr W_)) (by kernel_rfl) ?_ (fun hHeld => ?_)
        · exact ⟨(H0.out _ HWM.out).draw, below_dr11 (Below.refl _ _)⟩
        refine wpAnyH_take (i := 0) (oi := ⟨some 51, _, _, _, _, _⟩) (v := .agg (tpC t a)) rfl (by kernel_rfl) (by kernel_rfl) (by kernel_rfl) (fun _ _ _ h => h) (yields_load_row11 27 _ rfl (w.heap.size) rfl 27 (tpC t a) _ (fun _ ⟨h_, _⟩ => h_) Tryz.underlying27 rfl (by kernel_rfl) (by rfl)) (by assumption) ?_
        simp only [Act.put, List.setIfInBounds_toArray, List.set_cons_zero, List.set_cons_succ]
        refine wpAnyH_take (i := 1) (oi := ⟨some 52, _, _, _, _, _⟩) (v := ?_) rfl (by kernel_rfl) (by kernel_rfl) (by kernel_rfl) (fun _ _ _ h => h) (Or.inl ⟨by rfl, ?_⟩) (by assumption) ?_
        rotate_left
        · intro w_ hSw; (try dsimp only at hSw); go_simp <;> with_reducible rfl
        simp only [Act.put, List.setIfInBounds_toArray, List.set_cons_zero, List.set_cons_succ]
        refine wpAnyH_take (i := 2) (oi := ⟨some 53, _, _, _, _, _⟩) (v := ?_) rfl (by kernel_rfl) (by kernel_rfl) (by kernel_rfl) (fun _ _ _ h => h) (Or.inl ⟨by rfl, ?_⟩) (by assumption) ?_
        rotate_left
        · intro w_ hSw; (try dsimp only at hSw); go_simp <;> with_reducible rfl
        simp only [Act.put, List.setIfInBounds_toArray, List.set_cons_zero, List.set_cons_succ]
        refine wpAnyH_take (i := 3) (oi := ⟨some 54, _, _, _, _, _⟩) (v := ?_) rfl (by kernel_rfl) (by kernel_rfl) (by kernel_rfl) (fun _ _ _ h => h) (Or.inl ⟨by rfl, ?_⟩) (by assumption) ?_
        rotate_left
        · intro w_ hSw; (try dsimp only at hSw); go_simp <;> with_reducible rfl
        simp only [Act.put, List.setIfInBounds_toArray, List.set_cons_zero, List.set_cons_succ]
        refine wpAnyH_take (i := 4) (oi := ⟨some 55, _, _, _, _, _⟩) (v := ?_) rfl (by kernel_rfl) (by kernel_rfl) (by kernel_rfl) (fun _ _ _ h => h) (Or.inl ⟨by rfl, ?_⟩) (by assumption) ?_
        rotate_left
        · intro w_ hSw; (try dsimp only at hSw); go_simp <;> with_reducible rfl
        simp only [Act.put, List.setIfInBounds_toArray, List.set_cons_zero, List.set_cons_succ]
        refine wpAnyH_take (i := 5) (oi := ⟨some 56, _, _, _, _, _⟩) (v := ?_) rfl (by kernel_rfl) (by kernel_rfl) (by kernel_rfl) (fun _ _ _ h => h) (Or.inl ⟨by rfl, ?_⟩) (by assumption) ?_
        rotate_left
        · intro w_ hSw; (try dsimp only at hSw); obtain ⟨cx0_, cx1_⟩ := HCX.out w_ (HBA.out w_ (HWM.out.trans (hSw.2.mono HWM.out.size))); go_simp <;> with_reducible rfl
        simp only [Act.put, List.setIfInBounds_toArray, List.set_cons_zero, List.set_cons_succ]
        refine wpAnyH_take (i := 6) (oi := ⟨some 57, _, _, _, _, _⟩) (v := ?_) rfl (by kernel_rfl) (by kernel_rfl) (by kernel_rfl) (fun _ _ _ h => h) (Or.inl ⟨by rfl, ?_⟩) (by assumption) ?_
        rotate_left
        · intro w_ hSw; (try dsimp only at hSw); go_simp <;> with_reducible rfl
        simp only [Act.put, List.setIfInBounds_toArray, List.set_cons_zero, List.set_cons_succ]
        refine wpAnyH_take (i := 7) (oi := ⟨some 58, _, _, _, _, _⟩) (v := ?_) rfl (by kernel_rfl) (by kernel_rfl) (by kernel_rfl) (fun _ _ _ h => h) (Or.inl ⟨by rfl, ?_⟩) (by assumption) ?_
        rotate_left
        · intro w_ hSw; (try dsimp only at hSw); go_simp <;> with_reducible rfl
        simp only [Act.put, List.setIfInBounds_toArray, List.set_cons_zero, List.set_cons_succ]
        refine wpAnyH_take (i := 8) (oi := ⟨some 59, _, _, _, _, _⟩) (v := ?_) rfl (by kernel_rfl) (by kernel_rfl) (by kernel_rfl) (fun _ _ _ h => h) (Or.inl ⟨by rfl, ?_⟩) (by assumption) ?_
        rotate_left
        · intro w_ hSw; (try dsimp only at hSw); go_simp <;> with_reducible rfl
        simp only [Act.put, List.setIfInBounds_toArray, List.set_cons_zero, List.set_cons_succ]
        refine wpAnyH_take (i := 9) (oi := ⟨some 60, _, _, _, _, _⟩) (v := ?_) rfl (by kernel_rfl) (by kernel_rfl) (by kernel_rfl) (fun _ _ _ h => h) (Or.inl ⟨by rfl, ?_⟩) (by assumption) ?_
        rotate_left
        · intro w_ hSw; (try dsimp only at hSw); obtain ⟨cy0_, cy1_⟩ := HCY.out w_ (HBA.out w_ (HWM.out.trans (hSw.2.mono HWM.out.size))); go_simp <;> with_reducible rfl
        simp only [Act.put, List.setIfInBounds_toArray, List.set_cons_zero, List.set_cons_succ]
        refine wpAnyH_ready (rs := [10]) (by kernel_rfl) (by simp) ?_
        refine AllReadyH.cons (o := ⟨some 61, _, _, _, _, _⟩) rfl (fun K hK => ?_) ?_
        · go_simp
          obtain ⟨s0, s1⟩ := hHeld
          have hlo_ := HBA.out _ (HWM.out.trans (s1.mono HWM.out.size))
          refine (rmay_any t a x y _ (HT.out _ hlo_).j (by omega)).mono ?_
          rw [HBQ.out]
          rintro e_ vs ⟨rfl, hbs⟩
          go_wp2_with fail
          refine hK.out _ _ ?_ (fun hHeld => ?_)
          · exact ⟨s0.under hbs s0.lt, s1.trans (hbs.mono s1.size)⟩
          clear hK K s0 s1
          try simp only [Act.put, List.setIfInBounds_toArray, List.set_cons_zero, List.set_cons_succ]
          refine wpAnyH_take (i := 11) (oi := ⟨some 10, _, _, _, _, _⟩) (v := ?_) rfl (by kernel_rfl) (by kernel_rfl) (by kernel_rfl) (fun _ _ _ h => h) (Or.inl ⟨by rfl, ?_⟩) (by assumption) ?_
          rotate_left
          · intro w_ hSw; (try dsimp only at hSw); go_simp <;> with_reducible rfl
          simp only [Act.put, List.setIfInBounds_toArray, List.set_cons_zero, List.set_cons_succ]
          refine wpAnyH_done (by kernel_rfl) ?_ _
          clear hw1 hw2 y0 y1 y2 y3 y4
          cases bq with
          | false =>
            go_wp2
            go_ret2
            have h1_ : lenE t path = 141 := by unfold lenE; rw [if_neg (by have h1_ := HL.out; have h2_ := HNZ.out; omega), if_pos (List.all_eq_true.2 HALL.out), if_neg (fun h => by have h_ := way_at.1 h (m - 1) x y HX.out (by rw [show m - 1 + 1 = m by omega]; exact HY.out); rw [HBQ.out] at h_; cases h_)]
            have hE : rE = 141 := by rw [← HRE.out]; exact h1_
            subst hE
            first | exact ⟨_, rfl, HBA.out _ (HWM.out.trans (hHeld.2.mono HWM.out.size))⟩ | exact ⟨⟨_, rfl⟩, HBA.out _ (HWM.out.trans (hHeld.2.mono HWM.out.size))⟩
          | true =>
            go_wp2
            go_roundg (gk - 1)
            case measure => omega
            case rel =>
              refine ⟨m + 1, by omega, by omega, by omega, by go_num, Lib.hid (fun k a' b' hk ha hb => ?_), HWM.out.trans (hHeld.2.mono HWM.out.size)⟩
              by_cases hkm : k + 1 = m
              · have e_ : k = m - 1 := by omega
                rw [e_, HX.out] at ha
                rw [hkm, HY.out] at hb
                injection ha with ha
                injection hb with hb
                rw [← ha, ← hb]
                exact HBQ.out
              · exact HMA.out k a' b' (by omega) ha hb
        exact AllReadyH.nil
    obtain ⟨x, hx⟩ : ∃ x, path[i]? = some x := ⟨_, List.getElem?_eq_getElem (by have := HL.out; omega)⟩
    have HX := Lib.hid hx
    obtain ⟨bk, off, rfl, -, -⟩ := (HP.out w (Below.refl _ _)).step hx
    have HCX := Lib.hid (fun W (hW : Below w.heap.size w W) => (show W.cell? ⟨bk, off + i * 2, none⟩ = some (.int .i64 x.edge) from by obtain ⟨b_, o_, e_, h1_, h2_⟩ := (HP.out W hW).step hx; injection e_ with e_; injection e_ with e1_ e2_ _; subst e1_ e2_; exact h1_))
    obtain ⟨bq, hbq⟩ : ∃ b, edgeB t x.edge = b := ⟨_, rfl⟩
    have HBQ := Lib.hid hbq
    have y0 : (0 : Int) ≤ (i : Int) := by omega
    have y1 : (i : Int) < n := by omega
    clear hx hbq hwr
    go_upto_region 7 with fail
    refine wp_region_held_drew (S := (fun W_ => Has W_ (w.heap.size) 27 (tpC t a) ∧ Below wr.heap.size wr W_)) (by kernel_rfl) ?_ (fun hHeld => ?_)
    · exact ⟨(H0.out _ HWR.out).draw, below_dr11 (Below.refl _ _)⟩
    refine wpAnyH_take (i := 0) (oi := ⟨some 25, _, _, _, _, _⟩) (v := .agg (tpC t a)) rfl (by kernel_rfl) (by kernel_rfl) (by kernel_rfl) (fun _ _ _ h => h) (yields_load_row11 27 _ rfl (w.heap.size) rfl 27 (tpC t a) _ (fun _ ⟨h_, _⟩ => h_) Tryz.underlying27 rfl (by kernel_rfl) (by rfl)) (by assumption) ?_
    simp only [Act.put, List.setIfInBounds_toArray, List.set_cons_zero, List.set_cons_succ]
    refine wpAnyH_take (i := 1) (oi := ⟨some 26, _, _, _, _, _⟩) (v := ?_) rfl (by kernel_rfl) (by kernel_rfl) (by kernel_rfl) (fun _ _ _ h => h) (Or.inl ⟨by rfl, ?_⟩) (by assumption) ?_
    rotate_left
    · intro w_ hSw; (try dsimp only at hSw); go_simp <;> with_reducible rfl
    simp only [Act.put, List.setIfInBounds_toArray, List.set_cons_zero, List.set_cons_succ]
    refine wpAnyH_take (i := 2) (oi := ⟨some 27, _, _, _, _, _⟩) (v := ?_) rfl (by kernel_rfl) (by kernel_rfl) (by kernel_rfl) (fun _ _ _ h => h) (Or.inl ⟨by rfl, ?_⟩) (by assumption) ?_
    rotate_left
    · intro w_ hSw; (try dsimp only at hSw); go_simp <;> with_reducible rfl
    simp only [Act.put, List.setIfInBounds_toArray, List.set_cons_zero, List.set_cons_succ]
    refine wpAnyH_take (i := 3) (oi := ⟨some 28, _, _, _, _, _⟩) (v := ?_) rfl (by kernel_rfl) (by kernel_rfl) (by kernel_rfl) (fun _ _ _ h => h) (Or.inl ⟨by rfl, ?_⟩) (by assumption) ?_
    rotate_left
    · intro w_ hSw; (try dsimp only at hSw); go_simp <;> with_reducible rfl
    simp only [Act.put, List.setIfInBounds_toArray, List.set_cons_zero, List.set_cons_succ]
    refine wpAnyH_take (i := 4) (oi := ⟨some 29, _, _, _, _, _⟩) (v := ?_) rfl (by kernel_rfl) (by kernel_rfl) (by kernel_rfl) (fun _ _ _ h => h) (Or.inl ⟨by rfl, ?_⟩) (by assumption) ?_
    rotate_left
    · intro w_ hSw; (try dsimp only at hSw); go_simp <;> with_reducible rfl
    simp only [Act.put, List.setIfInBounds_toArray, List.set_cons_zero, List.set_cons_succ]
    refine wpAnyH_take (i := 5) (oi := ⟨some 30, _, _, _, _, _⟩) (v := ?_) rfl (by kernel_rfl) (by kernel_rfl) (by kernel_rfl) (fun _ _ _ h => h) (Or.inl ⟨by rfl, ?_⟩) (by assumption) ?_
    rotate_left
    · intro w_ hSw; (try dsimp only at hSw); have cx_ := HCX.out w_ (HBA.out w_ (HWR.out.trans (hSw.2.mono HWR.out.size))); go_simp <;> with_reducible rfl
    simp only [Act.put, List.setIfInBounds_toArray, List.set_cons_zero, List.set_cons_succ]
    refine wpAnyH_ready (rs := [6]) (by kernel_rfl) (by simp) ?_
    refine AllReadyH.cons (o := ⟨some 31, _, _, _, _, _⟩) rfl (fun K hK => ?_) ?_
    · go_simp
      obtain ⟨s0, s1⟩ := hHeld
      refine (redge_any t a x.edge _).mono ?_
      rw [HBQ.out]
      rintro e_ vs ⟨rfl, hbs⟩
      go_wp2_with fail
      refine hK.out _ _ ?_ (fun hHeld => ?_)
      · exact ⟨s0.under hbs s0.lt, s1.trans (hbs.mono s1.size)⟩
      clear hK K s0 s1
      try simp only [Act.put, List.setIfInBounds_toArray, List.set_cons_zero, List.set_cons_succ]
      refine wpAnyH_take (i := 7) (oi := ⟨some 8, _, _, _, _, _⟩) (v := ?_) rfl (by kernel_rfl) (by kernel_rfl) (by kernel_rfl) (fun _ _ _ h => h) (Or.inl ⟨by rfl, ?_⟩) (by assumption) ?_
      rotate_left
      · intro w_ hSw; (try dsimp only at hSw); go_simp <;> with_reducible rfl
      simp only [Act.put, List.setIfInBounds_toArray, List.set_cons_zero, List.set_cons_succ]
      refine wpAnyH_done (by kernel_rfl) ?_ _
      have HBE := Lib.hid (HWR.out.trans (hHeld.2.mono HWR.out.size))
      have HH0 := Lib.hid hHeld.1
      clear hHeld
      cases bq with
      | false =>
        go_wp2
        go_ret2
        have h1_ : lenE t path = 1 := by unfold lenE; rw [if_neg (by have h1_ := HL.out; have h2_ := HNZ.out; omega), if_neg (fun h => by have h_ := List.all_eq_true.1 h x (List.mem_of_getElem? HX.out); rw [HBQ.out] at h_; cases h_)]
        have hE : rE = 1 := by rw [← HRE.out]; exact h1_
        subst hE
        first | exact ⟨_, rfl, HBA.out _ HBE.out⟩ | exact ⟨⟨_, rfl⟩, HBA.out _ HBE.out⟩
      | true =>
        have hed : 0 ≤ x.edge ∧ x.edge < t.edges.length := by have h_ := HBQ.out; unfold edgeB at h_; simpa using h_
        obtain ⟨e, hee⟩ : ∃ e : Nat, x.edge = e := ⟨x.edge.toNat, by omega⟩
        have hel : e < t.edges.length := by omega
        have cx := HCX.out _ (HBA.out _ HBE.out)
        rw [hee] at cx
        obtain ⟨be, oe, hae, ce⟩ := (HT.out _ (HBA.out _ HBE.out)).e.edge hel
        have c0 := HH0.out.cell 0
        obtain ⟨q, hq⟩ : ∃ q, t.edges.getD e 0 = q := ⟨_, rfl⟩
        rw [hq] at ce
        have c0' : vs.cell? ⟨w.heap.size, 0, none⟩ = some (.slice (some ⟨be, oe, none⟩) t.edges.length a.ce) := by first | exact c0.trans (by rw [← hae]; rfl) | (rw [← hae]; exact c0)
        have z0 : (0 : Int) ≤ e := by omega
        have z1 : (e : Int) < t.edges.length := by omega
        obtain ⟨me, hme⟩ : ∃ m, t.edges.length = m := ⟨_, rfl⟩
        have HME := Lib.hid hme
        rw [hme] at c0' z1
        clear c0 hed hel hq hme
        go_upto_region 10 with fail
        go_quiet (fail)
        go_wp2
        go_roundg (gk - 1)
        case measure => omega
        case rel =>
          refine ⟨i + 1, by omega, by omega, by go_num, ⟨_, rfl⟩, Lib.hid (fun s hs => ?_), below_draws HBE.out _⟩
          · rw [List.take_add_one, HX.out] at hs
            rcases List.mem_append.1 hs with h | h
            · exact HED.out s h
            · rw [List.mem_singleton.1 h]; exact HBQ.out
    exact AllReadyH.nil

end Go.Proofs.YteioefgckigbcaaGreat
