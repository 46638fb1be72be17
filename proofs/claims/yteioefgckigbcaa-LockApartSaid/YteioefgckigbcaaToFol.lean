/-
  package topo as landed: followers.
-/
import Derived.Test.YteioefgckigbcaaToKey

import Derived.BigQuiet

namespace Go.Proofs.Yteioefgckigbcaa

open Go.RowKit

open Go.Great

def folJ (t : Tp3) (s x : St3) (j : Jt3) : Bool := connB t j && ((eqS (lvS j.a) s && eqS (enS j.b) x) || (eqS (lvS j.b) s && eqS (enS j.a) x))
def folUp (t : Tp3) (s : St3) (i : Nat) (x : St3) : Bool := (t.joints.take i).any (folJ t s x)
def folB (t : Tp3) (s x : St3) : Bool := t.joints.any (folJ t s x)
theorem folUp_succ {t : Tp3} {s : St3} {i : Nat} {j : Jt3} (hj : t.joints[i]? = some j) (x : St3) : folUp t s (i + 1) x = (folUp t s i x || folJ t s x j) := by
  unfold folUp
  rw [List.take_add_one, hj, List.any_append]
  simp
theorem folUp_all {t : Tp3} {s : St3} {i : Nat} (h : t.joints.length ≤ i) (x : St3) : folUp t s i x = folB t s x := by
  unfold folUp folB
  rw [List.take_of_length_le h]
theorem conn_wf {t : Tp3} {j : Jt3} (h : connB t j = true) (hl : t.edges.length ≤ 100) : wfS (enS j.a) ∧ wfS (enS j.b) := by
  unfold connB endB at h
  simp only [Bool.and_eq_true] at h
  exact ⟨wfS_of (s := enS j.a) h.1.1 hl, wfS_of (s := enS j.b) h.2.1 hl⟩

set_option maxRecDepth 100000 in
set_option maxHeartbeats 8000000 in
theorem otfol_any (t : Tp3) (a : TpA) (s : St3) (w : World) (ht : TopR w t a) (hl : t.edges.length ≤ 100) (hj : t.joints.length ≤ 1048576) :
    Calls Try.prog 83 #[.agg (tpC t a), .agg (stA13 s)] w fun e w' => ∃ (bm n : Nat) (D : DataW Unit), e = .returned (.map (some bm)) ∧ n ≤ 2 * t.joints.length ∧ Hid (w'.ownsMap Try.prog 75 (plainElem Try.prog 4) bm n D) ∧ Hid (SetM D (folB t s)) ∧ Hid (w.heap.size ≤ bm) ∧ Below w.heap.size w w' := by
  obtain ⟨wa, hwa⟩ : ∃ wa, (w.alloc (.cells (tpC t a) 27)).alloc (.cells (stA13 s) 75) = wa := ⟨_, rfl⟩
  have hbwa : Below w.heap.size w wa := by rw [← hwa]; exact ((Below.refl _ _).alloc (Nat.le_refl _) _).alloc (by simp) _
  have h0 : Has wa (w.heap.size) 27 (tpC t a) := by rw [← hwa]; exact ((Has.made _ _ _).beside _)
  have h1 : Has wa (w.heap.size + 1) 75 (stA13 s) := by rw [← hwa]; exact (has_at11 (by simp))
  have HWA := Lib.hid hwa; have HBWA := Lib.hid hbwa
  have HSZ : Hid (wa.heap.size = w.heap.size + 2) := Lib.hid (by rw [← hwa]; simp)
  have HT := Lib.hid ht
  have H0 := Lib.hid h0; have H1 := Lib.hid h1
  obtain ⟨nj, hnj⟩ : ∃ n, t.joints.length = n := ⟨_, rfl⟩
  have HNJ := Lib.hid hnj
  have HL := Lib.hid hl
  rw [hnj] at hj ⊢
  clear hwa hbwa h0 h1 ht hnj hl
  have hmm := @run_makeMap Try.prog
  go_enter Try.func83, Try.ntmps83
  go_upto_region 1 with fail
  rw [HWA.out]
  clear HWA
  go_upto_region 2 with fail
  obtain ⟨bm, hbm⟩ : ∃ bm, wa.heap.size = bm := ⟨_, rfl⟩
  obtain ⟨wm, hwm⟩ : ∃ wm, wa.alloc (.map #[] 0) = wm := ⟨_, rfl⟩
  rw [hwm, hbm]
  clear hmm
  have ho : wm.ownsMap Try.prog 75 (plainElem Try.prog 4) bm 0 (.map [] : DataW Unit) := by rw [← hwm, ← hbm]; exact World.ownsMap_made _ _ _ _
  have hbmm : Below wa.heap.size wa wm := by rw [← hwm]; exact (Below.refl _ _).alloc (Nat.le_refl _) _
  have HBM := Lib.hid (HBWA.out.trans (hbmm.mono HBWA.out.size))
  have HM0 := Lib.hid (H0.out.under hbmm H0.out.lt); have HM1 := Lib.hid (H1.out.under hbmm H1.out.lt)
  have HBE : Hid (bm = w.heap.size + 2) := Lib.hid (by rw [← hbm]; exact HSZ.out)
  have HMS : Hid (wm.heap.size = bm + 1) := Lib.hid (by rw [← hwm, ← hbm]; simp)
  have HO := Lib.hid ho
  obtain ⟨AJ, hAJ⟩ : ∃ A, a.aj = A := ⟨_, rfl⟩
  have HTJ : Hid (SlO jtC 4 w AJ nj a.cj t.joints) := Lib.hid (by rw [← hAJ, ← HNJ.out]; exact HT.out.j)
  have c1 : wm.cell? ⟨w.heap.size, 1, none⟩ = some (.slice AJ nj a.cj) := by rw [← HNJ.out, ← hAJ]; exact HM0.out.cell 1
  clear hAJ
  clear ho hbmm hwm hbm H0 H1 HBWA HSZ
  go_wp2
  go_loopg [12] nj (fun kk v wl => ∃ (i n : Nat) (D : DataW Unit), i ≤ nj ∧ nj - i ≤ kk ∧ v = .int .i64 i ∧ n ≤ 2 * i ∧ Hid (wl.ownsMap Try.prog 75 (plainElem Try.prog 4) bm n D) ∧ Hid (SetM D (folUp t s i)) ∧ Hid (wm.grownBy wl (some bm)))
  case atStart => exact ⟨0, 0, .map [], by omega, by omega, rfl, by omega, HO, Lib.hid (SetM.empty.is fun x => by unfold folUp; rw [List.take_zero]; rfl), Lib.hid (only_refl _ _)⟩
  case round =>
    obtain ⟨i, n, D, hi, hik, rfl, hn, HOW, HSE, HG⟩ := hrel
    clear HO c1
    obtain ⟨w0, hw0⟩ : ∃ w0, w0 = wr := ⟨_, rfl⟩
    subst hw0
    have HBL : Hid (Below w.heap.size w w0) := Lib.hid (below_only HBM.out HG.out HBM.out.size (by have := HBE.out; omega))
    by_cases hlt : i < nj
    rotate_left
    · have y1 : ¬ (i : Int) < nj := by omega
      have HSF : Hid (SetM D (folB t s)) := Lib.hid (HSE.out.is fun x => folUp_all (by rw [HNJ.out]; omega) x)
      have HLE : Hid (w.heap.size ≤ bm) := Lib.hid (by have := HBE.out; omega)
      have hnn : n ≤ 2 * nj := by omega
      go_wp2
      go_ret
      exact ⟨bm, rfl, n, hnn, D, HOW, HSF, HLE, HBL.out⟩
    obtain ⟨j, hj'⟩ : ∃ j, t.joints[i]? = some j := ⟨_, List.getElem?_eq_getElem (by rw [HNJ.out]; exact hlt)⟩
    have HFS := Lib.hid (fun x => folUp_succ (s := s) hj' x)
    obtain ⟨bk, off, rfl, d0, d1, d2, d3⟩ := (HTJ.out.under HBL.out).joint hj'
    have y0 : (0 : Int) ≤ i := by omega
    have y1 : (i : Int) < nj := by omega
    obtain ⟨cn, hcn⟩ : ∃ b, connB t j = b := ⟨_, rfl⟩
    obtain ⟨p1, hp1⟩ : ∃ b, eqS (lvS j.a) s = b := ⟨_, rfl⟩
    obtain ⟨p2, hp2⟩ : ∃ b, eqS (lvS j.b) s = b := ⟨_, rfl⟩
    have q1 := eql_st13 (lvS j.a) s
    have q2 := eql_st13 (lvS j.b) s
    rw [hp1] at q1
    rw [hp2] at q2
    have HFJ : Hid (∀ x, folJ t s x j = (cn && ((p1 && eqS (enS j.b) x) || (p2 && eqS (enS j.a) x)))) := Lib.hid fun x => by unfold folJ; rw [hcn, hp1, hp2]
    have HWF : Hid (cn = true → wfS (enS j.a) ∧ wfS (enS j.b)) := Lib.hid fun h => conn_wf (by rw [hcn]; exact h) HL.out
    have HCN := Lib.hid (fun W => otconn_any t a j W HL.out)
    rw [hcn] at HCN
    clear hcn hp1 hp2 hj'
    obtain ⟨⟨j1, j2⟩, ⟨j3, j4⟩⟩ := j
    unfold jtA at HCN
    dsimp only at *
    have HL1 := Lib.hid (fun W => otlv_any (j1, j2) W); have HL2 := Lib.hid (fun W => otlv_any (j3, j4) W)
    have HE1 := Lib.hid (fun W => oten_any (j3, j4) W); have HE2 := Lib.hid (fun W => oten_any (j1, j2) W)
    unfold endA at HL1 HL2 HE1 HE2
    dsimp only at HL1 HL2 HE1 HE2
    go_upto_region 5 with fail
    obtain ⟨wb, hwb⟩ : ∃ wb, w0.alloc (.cells #[.int .i64 j1, .int .i64 j2, .int .i64 j3, .int .i64 j4] 71) = wb := ⟨_, rfl⟩
    rw [hwb]
    have hbb : Below w0.heap.size w0 wb := by rw [← hwb]; exact (Below.refl _ _).alloc (Nat.le_refl _) _
    have hX : Has wb w0.heap.size 71 #[.int .i64 j1, .int .i64 j2, .int .i64 j3, .int .i64 j4] := by rw [← hwb]; exact Has.made _ _ _
    have HBB := Lib.hid hbb
    have HX := Lib.hid hX
    have HLT : Hid (bm < w0.heap.size) := Lib.hid HOW.out.lt
    have HK0 := Lib.hid ((HM0.out.grow HG.out (by have := HBE.out; intro e; injection e with e; omega)).under hbb (HM0.out.grow HG.out (by have := HBE.out; intro e; injection e with e; omega)).lt)
    have HK1 := Lib.hid ((HM1.out.grow HG.out (by have := HBE.out; intro e; injection e with e; omega)).under hbb (HM1.out.grow HG.out (by have := HBE.out; intro e; injection e with e; omega)).lt)
    clear hwb hbb hX d0 d1 d2 d3
    go_wp2_with (first | (with_reducible refine wpList_load_row (o := ⟨some 16, _, _, _, _, _⟩) rfl 27 _ rfl (w.heap.size) rfl 27 (tpC t a) (0, 0) _ (HK0.out).raw11 Try.underlying27 rfl (by kernel_rfl) ?_) | (with_reducible refine wpList_load_row (o := ⟨some 17, _, _, _, _, _⟩) rfl 71 _ rfl (w0.heap.size) rfl 71 #[.int .i64 j1, .int .i64 j2, .int .i64 j3, .int .i64 j4] (0, 0) _ (HX.out).raw11 Try.underlying71 rfl (by kernel_rfl) ?_))
    refine (HCN.out _).mono ?_
    rintro e w2 ⟨rfl, hb2⟩
    have HX2 := Lib.hid (HX.out.under hb2 HX.out.lt)
    have HS2 := Lib.hid (HK1.out.under hb2 HK1.out.lt)
    have HB2 := Lib.hid (HBB.out.trans (hb2.mono HBB.out.size))
    clear hb2 HK0 HK1 HX HBB HCN
    cases cn with
    | false =>
      have HO2 : Hid (w2.ownsMap Try.prog 75 (plainElem Try.prog 4) bm n D) := Lib.hid (HOW.out.kept (only_below HB2.out (Nat.le_refl _) none) (by simp))
      have HG2 : Hid (wm.grownBy w2 (some bm)) := Lib.hid (only_trans HG.out (only_below HB2.out (Nat.le_refl _) _))
      have HSN : Hid (SetM D (folUp t s (i + 1))) := Lib.hid (HSE.out.is fun x => by rw [HFS.out, HFJ.out]; simp)
      clear q1 q2
      go_wp2
      go_roundg (gk - 1)
      case measure => omega
      case rel => exact ⟨i + 1, n, D, by omega, by omega, by go_num, by omega, HO2, HSN, HG2⟩
    | true =>
      have HWE := Lib.hid (HWF.out (by first | rfl | trivial))
      clear HWF
      go_upto_region 6 with fail
      have H8 := Lib.hid (⟨HX2.out, HS2.out⟩ : _ ∧ _)
      clear HX2 HS2
      refine wp_region_held_drew (S := (fun W_ => Has W_ (w0.heap.size) 71 #[.int .i64 j1, .int .i64 j2, .int .i64 j3, .int .i64 j4] ∧ Has W_ (w.heap.size + 1) 75 (stA13 s) ∧ Below w2.heap.size w2 W_)) (by kernel_rfl) ?_ (fun hHeld => ?_)
      · exact ⟨H8.out.1.draw, H8.out.2.draw, below_dr11 (Below.refl _ _)⟩
      refine wpAnyH_take (i := 0) (oi := ⟨some 20, _, _, _, _, _⟩) (v := ?_) rfl (by kernel_rfl) (by kernel_rfl) (by kernel_rfl) (fun _ _ _ h => h) (Or.inl ⟨by rfl, ?_⟩) (by assumption) ?_
      rotate_left
      · intro w_ hSw; (try dsimp only at hSw); go_simp <;> with_reducible rfl
      simp only [Act.put, List.setIfInBounds_toArray, List.set_cons_zero, List.set_cons_succ]
      refine wpAnyH_take (i := 1) (oi := ⟨some 21, _, _, _, _, _⟩) (v := ?_) rfl (by kernel_rfl) (by kernel_rfl) (by kernel_rfl) (fun _ _ _ h => h) (Or.inl ⟨by rfl, ?_⟩) (by assumption) ?_
      rotate_left
      · intro w_ hSw; (try dsimp only at hSw); have q0_ : w_.cell? ⟨w0.heap.size, 0, none⟩ = some (.int .i64 j1) := hSw.1.cell 0; have q1_ : w_.cell? ⟨w0.heap.size, 1, none⟩ = some (.int .i64 j2) := hSw.1.cell 1; go_simp <;> with_reducible rfl
      simp only [Act.put, List.setIfInBounds_toArray, List.set_cons_zero, List.set_cons_succ]
      refine wpAnyH_take (i := 3) (oi := ⟨some 23, _, _, _, _, _⟩) (v := .agg (stA13 s)) rfl (by kernel_rfl) (by kernel_rfl) (by kernel_rfl) (fun _ _ _ h => h) (yields_load_row11 75 _ rfl (w.heap.size + 1) rfl 75 (stA13 s) _ (fun _ ⟨_, h_, _⟩ => h_) Try.underlying75 rfl (by kernel_rfl) (by rfl)) (by assumption) ?_
      simp only [Act.put, List.setIfInBounds_toArray, List.set_cons_zero, List.set_cons_succ]
      refine wpAnyH_ready (rs := [2]) (by kernel_rfl) (by simp) ?_
      refine AllReadyH.cons (o := ⟨some 22, _, _, _, _, _⟩) rfl (fun K hK => ?_) ?_
      · go_simp
        obtain ⟨s0, s1, s2⟩ := hHeld
        refine (HL1.out _).mono ?_
        rintro e_ v3 ⟨rfl, hbs⟩
        go_wp2_with fail
        refine hK.out _ _ ?_ (fun hHeld => ?_)
        · exact ⟨s0.under hbs s0.lt, s1.under hbs s1.lt, s2.trans (hbs.mono s2.size)⟩
        clear hK K s0 s1 s2
        try simp only [Act.put, List.setIfInBounds_toArray, List.set_cons_zero, List.set_cons_succ]
        refine wpAnyH_take (i := 4) (oi := ⟨some 24, _, _, _, _, _⟩) (v := .bool p1) rfl (by kernel_rfl) (by kernel_rfl) (by kernel_rfl) (fun _ _ _ h => h) (yields_aggCmp11 .eql 75 _ _ _ rfl _ _ rfl rfl plain_st13 _ q1 (by rfl)) (by assumption) ?_
        simp only [Act.put, List.setIfInBounds_toArray, List.set_cons_zero, List.set_cons_succ]
        refine wpAnyH_done (by kernel_rfl) ?_ _
        have H3 := Lib.hid hHeld
        clear hHeld H8
        have HB3 := Lib.hid (HB2.out.trans (H3.out.2.2.mono HB2.out.size))
        have HO3 : Hid (v3.ownsMap Try.prog 75 (plainElem Try.prog 4) bm n D) := Lib.hid (HOW.out.kept (only_below HB3.out (Nat.le_refl _) none) (by simp))
        have HG3 : Hid (wm.grownBy v3 (some bm)) := Lib.hid (only_trans HG.out (only_below HB3.out (Nat.le_refl _) _))
        clear HOW HG HB2
        cases p1 with
        | false =>
          have HS8 : Hid (SetM D fun x => folUp t s i x || (false && eqS (enS (j3, j4)) x)) := Lib.hid (HSE.out.is fun x => by simp)
          have H8 := Lib.hid (⟨H3.out.1, H3.out.2.1⟩ : _ ∧ _)
          have hn8 : n ≤ 2 * i + 1 := by omega
          obtain ⟨v8, hv8⟩ : ∃ v, v = v3 := ⟨_, rfl⟩
          subst hv8
          obtain ⟨n8, hne⟩ : ∃ n', n' = n := ⟨_, rfl⟩
          subst hne
          obtain ⟨D8, hde⟩ : ∃ D', D' = D := ⟨_, rfl⟩
          subst hde
          have HO8 := HO3; have HG8 := HG3
          clear HO3 HG3 H3 HSE HB3
          go_upto_region 8 with fail
          refine wp_region_held_drew (S := (fun W_ => Has W_ (w0.heap.size) 71 #[.int .i64 j1, .int .i64 j2, .int .i64 j3, .int .i64 j4] ∧ Has W_ (w.heap.size + 1) 75 (stA13 s) ∧ Below v8.heap.size v8 W_)) (by kernel_rfl) ?_ (fun hHeld => ?_)
          · exact ⟨H8.out.1.draw, H8.out.2.draw, below_dr11 (Below.refl _ _)⟩
          refine wpAnyH_take (i := 0) (oi := ⟨some 29, _, _, _, _, _⟩) (v := ?_) rfl (by kernel_rfl) (by kernel_rfl) (by kernel_rfl) (fun _ _ _ h => h) (Or.inl ⟨by rfl, ?_⟩) (by assumption) ?_
          rotate_left
          · intro w_ hSw; (try dsimp only at hSw); go_simp <;> with_reducible rfl
          simp only [Act.put, List.setIfInBounds_toArray, List.set_cons_zero, List.set_cons_succ]
          refine wpAnyH_take (i := 1) (oi := ⟨some 30, _, _, _, _, _⟩) (v := ?_) rfl (by kernel_rfl) (by kernel_rfl) (by kernel_rfl) (fun _ _ _ h => h) (Or.inl ⟨by rfl, ?_⟩) (by assumption) ?_
          rotate_left
          · intro w_ hSw; (try dsimp only at hSw); have q0_ : w_.cell? ⟨w0.heap.size, 2, none⟩ = some (.int .i64 j3) := hSw.1.cell 2; have q1_ : w_.cell? ⟨w0.heap.size, 3, none⟩ = some (.int .i64 j4) := hSw.1.cell 3; go_simp <;> with_reducible rfl
          simp only [Act.put, List.setIfInBounds_toArray, List.set_cons_zero, List.set_cons_succ]
          refine wpAnyH_take (i := 3) (oi := ⟨some 32, _, _, _, _, _⟩) (v := .agg (stA13 s)) rfl (by kernel_rfl) (by kernel_rfl) (by kernel_rfl) (fun _ _ _ h => h) (yields_load_row11 75 _ rfl (w.heap.size + 1) rfl 75 (stA13 s) _ (fun _ ⟨_, h_, _⟩ => h_) Try.underlying75 rfl (by kernel_rfl) (by rfl)) (by assumption) ?_
          simp only [Act.put, List.setIfInBounds_toArray, List.set_cons_zero, List.set_cons_succ]
          refine wpAnyH_ready (rs := [2]) (by kernel_rfl) (by simp) ?_
          refine AllReadyH.cons (o := ⟨some 31, _, _, _, _, _⟩) rfl (fun K hK => ?_) ?_
          · go_simp
            obtain ⟨s0, s1, s2⟩ := hHeld
            refine (HL2.out _).mono ?_
            rintro e_ v7 ⟨rfl, hbs⟩
            go_wp2_with fail
            refine hK.out _ _ ?_ (fun hHeld => ?_)
            · exact ⟨s0.under hbs s0.lt, s1.under hbs s1.lt, s2.trans (hbs.mono s2.size)⟩
            clear hK K s0 s1 s2
            try simp only [Act.put, List.setIfInBounds_toArray, List.set_cons_zero, List.set_cons_succ]
            refine wpAnyH_take (i := 4) (oi := ⟨some 33, _, _, _, _, _⟩) (v := .bool p2) rfl (by kernel_rfl) (by kernel_rfl) (by kernel_rfl) (fun _ _ _ h => h) (yields_aggCmp11 .eql 75 _ _ _ rfl _ _ rfl rfl plain_st13 _ q2 (by rfl)) (by assumption) ?_
            simp only [Act.put, List.setIfInBounds_toArray, List.set_cons_zero, List.set_cons_succ]
            refine wpAnyH_done (by kernel_rfl) ?_ _
            have H9 := Lib.hid hHeld
            clear hHeld H8
            have HO9 : Hid (v7.ownsMap Try.prog 75 (plainElem Try.prog 4) bm n8 D8) := Lib.hid (HO8.out.kept (only_below H9.out.2.2 (Nat.le_refl _) none) (by simp))
            have HG9 : Hid (wm.grownBy v7 (some bm)) := Lib.hid (only_trans HG8.out (only_below H9.out.2.2 (Nat.le_refl _) _))
            clear HO8 HG8
            cases p2 with
            | false =>
              have HSN : Hid (SetM D8 (folUp t s (i + 1))) := Lib.hid (HS8.out.is fun x => by rw [HFS.out, HFJ.out]; simp)
              clear q1 q2
              go_wp2
              go_roundg (gk - 1)
              case measure => omega
              case rel => exact ⟨i + 1, n8, D8, by omega, by omega, by go_num, by omega, HO9, HSN, HG9⟩
            | true =>
              have e0 : v7.cell? ⟨w0.heap.size, 0, none⟩ = some (.int .i64 j1) := H9.out.1.cell 0
              have e1 : v7.cell? ⟨w0.heap.size, 1, none⟩ = some (.int .i64 j2) := H9.out.1.cell 1
              clear q1 q2
              go_wp2_with fail
              refine (HE2.out _).mono ?_
              rintro e v10 ⟨rfl, hb10⟩
              have HO10 : Hid (v10.ownsMap Try.prog 75 (plainElem Try.prog 4) bm n8 D8) := Lib.hid (HO9.out.kept (only_below hb10 (Nat.le_refl _) none) (by simp))
              have HG10 : Hid (wm.grownBy v10 (some bm)) := Lib.hid (only_trans HG9.out (only_below hb10 (Nat.le_refl _) _))
              clear hb10 e0 e1 HO9 HG9 H9
              have hmx : n8 < maxLen := by unfold maxLen; omega
              go_wp2_with (at_mapUpdate; refine wpList_mapUpdate_own _ rfl _ _ _ 130 rfl 75 4 keyed13 Try.underlying130 (plainElem Try.prog 4) bm n8 D8 rfl HO10.out hmx _ _ (stK (enS (j1, j2))) rfl rfl (keyOf_st HWE.out.1) (.lit (.bool true)) [] (plainElem_bool Try.underlying4 true) ?_; intro v11 ho11 hg11)
              have HG11 : Hid (wm.grownBy v11 (some bm)) := Lib.hid (only_trans HG10.out hg11)
              have HO11 := Lib.hid ho11
              have HSN : Hid (SetM (D8.put (stK (enS (j1, j2))) (.lit (.bool true))) (folUp t s (i + 1))) := Lib.hid ((HS8.out.put HWE.out.1).is fun x => by rw [HFS.out, HFJ.out]; first | (simp; done) | (simp [Bool.or_assoc]; done))
              clear ho11 hg11
              go_roundg (gk - 1)
              case measure => omega
              case rel => exact ⟨i + 1, n8 + 1, _, by omega, by omega, by go_num, by omega, HO11, HSN, HG11⟩
          exact AllReadyH.nil
        | true =>
          have e0 : v3.cell? ⟨w0.heap.size, 2, none⟩ = some (.int .i64 j3) := H3.out.1.cell 2
          have e1 : v3.cell? ⟨w0.heap.size, 3, none⟩ = some (.int .i64 j4) := H3.out.1.cell 3
          go_wp2_with fail
          refine (HE1.out _).mono ?_
          rintro e v4 ⟨rfl, hb4⟩
          have HO4 : Hid (v4.ownsMap Try.prog 75 (plainElem Try.prog 4) bm n D) := Lib.hid (HO3.out.kept (only_below hb4 (Nat.le_refl _) none) (by simp))
          have HG4 : Hid (wm.grownBy v4 (some bm)) := Lib.hid (only_trans HG3.out (only_below hb4 (Nat.le_refl _) _))
          have H4 := Lib.hid (⟨H3.out.1.under hb4 H3.out.1.lt, H3.out.2.1.under hb4 H3.out.2.1.lt⟩ : _ ∧ _)
          clear hb4 e0 e1 HO3 HG3 H3 HB3
          have hmx : n < maxLen := by unfold maxLen; omega
          go_upto_region 8 with (at_mapUpdate; refine wpList_mapUpdate_own _ rfl _ _ _ 130 rfl 75 4 keyed13 Try.underlying130 (plainElem Try.prog 4) bm n D rfl HO4.out hmx _ _ (stK (enS (j3, j4))) rfl rfl (keyOf_st HWE.out.2) (.lit (.bool true)) [] (plainElem_bool Try.underlying4 true) ?_; intro v8 ho8 hg8)
          have HG8 : Hid (wm.grownBy v8 (some bm)) := Lib.hid (only_trans HG4.out hg8)
          have H8 := Lib.hid (⟨H4.out.1.grow hg8 (by have := HLT.out; intro e; injection e with e; omega), H4.out.2.grow hg8 (by have := HBE.out; intro e; injection e with e; omega)⟩ : _ ∧ _)
          have hn8 : n + 1 ≤ 2 * i + 1 := by omega
          have HS8 : Hid (SetM (D.put (stK (enS (j3, j4))) (.lit (.bool true))) fun x => folUp t s i x || (true && eqS (enS (j3, j4)) x)) := Lib.hid ((HSE.out.put HWE.out.2).is fun x => by simp)
          have HO8 := Lib.hid ho8
          obtain ⟨n8, hne⟩ : ∃ n', n + 1 = n' := ⟨_, rfl⟩
          rw [hne] at HO8 hn8
          obtain ⟨D8, hde⟩ : ∃ D', D.put (stK (enS (j3, j4))) (.lit (.bool true)) = D' := ⟨_, rfl⟩
          rw [hde] at HO8 HS8
          clear ho8 hg8 hne hde HO4 HG4 H4 HSE hmx
          refine wp_region_held_drew (S := (fun W_ => Has W_ (w0.heap.size) 71 #[.int .i64 j1, .int .i64 j2, .int .i64 j3, .int .i64 j4] ∧ Has W_ (w.heap.size + 1) 75 (stA13 s) ∧ Below v8.heap.size v8 W_)) (by kernel_rfl) ?_ (fun hHeld => ?_)
          · exact ⟨H8.out.1.draw, H8.out.2.draw, below_dr11 (Below.refl _ _)⟩
          refine wpAnyH_take (i := 0) (oi := ⟨some 29, _, _, _, _, _⟩) (v := ?_) rfl (by kernel_rfl) (by kernel_rfl) (by kernel_rfl) (fun _ _ _ h => h) (Or.inl ⟨by rfl, ?_⟩) (by assumption) ?_
          rotate_left
          · intro w_ hSw; (try dsimp only at hSw); go_simp <;> with_reducible rfl
          simp only [Act.put, List.setIfInBounds_toArray, List.set_cons_zero, List.set_cons_succ]
          refine wpAnyH_take (i := 1) (oi := ⟨some 30, _, _, _, _, _⟩) (v := ?_) rfl (by kernel_rfl) (by kernel_rfl) (by kernel_rfl) (fun _ _ _ h => h) (Or.inl ⟨by rfl, ?_⟩) (by assumption) ?_
          rotate_left
          · intro w_ hSw; (try dsimp only at hSw); have q0_ : w_.cell? ⟨w0.heap.size, 2, none⟩ = some (.int .i64 j3) := hSw.1.cell 2; have q1_ : w_.cell? ⟨w0.heap.size, 3, none⟩ = some (.int .i64 j4) := hSw.1.cell 3; go_simp <;> with_reducible rfl
          simp only [Act.put, List.setIfInBounds_toArray, List.set_cons_zero, List.set_cons_succ]
          refine wpAnyH_take (i := 3) (oi := ⟨some 32, _, _, _, _, _⟩) (v := .agg (stA13 s)) rfl (by kernel_rfl) (by kernel_rfl) (by kernel_rfl) (fun _ _ _ h => h) (yields_load_row11 75 _ rfl (w.heap.size + 1) rfl 75 (stA13 s) _ (fun _ ⟨_, h_, _⟩ => h_) Try.underlying75 rfl (by kernel_rfl) (by rfl)) (by assumption) ?_
          simp only [Act.put, List.setIfInBounds_toArray, List.set_cons_zero, List.set_cons_succ]
          refine wpAnyH_ready (rs := [2]) (by kernel_rfl) (by simp) ?_
          refine AllReadyH.cons (o := ⟨some 31, _, _, _, _, _⟩) rfl (fun K hK => ?_) ?_
          · go_simp
            obtain ⟨s0, s1, s2⟩ := hHeld
            refine (HL2.out _).mono ?_
            rintro e_ v7 ⟨rfl, hbs⟩
            go_wp2_with fail
            refine hK.out _ _ ?_ (fun hHeld => ?_)
            · exact ⟨s0.under hbs s0.lt, s1.under hbs s1.lt, s2.trans (hbs.mono s2.size)⟩
            clear hK K s0 s1 s2
            try simp only [Act.put, List.setIfInBounds_toArray, List.set_cons_zero, List.set_cons_succ]
            refine wpAnyH_take (i := 4) (oi := ⟨some 33, _, _, _, _, _⟩) (v := .bool p2) rfl (by kernel_rfl) (by kernel_rfl) (by kernel_rfl) (fun _ _ _ h => h) (yields_aggCmp11 .eql 75 _ _ _ rfl _ _ rfl rfl plain_st13 _ q2 (by rfl)) (by assumption) ?_
            simp only [Act.put, List.setIfInBounds_toArray, List.set_cons_zero, List.set_cons_succ]
            refine wpAnyH_done (by kernel_rfl) ?_ _
            have H9 := Lib.hid hHeld
            clear hHeld H8
            have HO9 : Hid (v7.ownsMap Try.prog 75 (plainElem Try.prog 4) bm n8 D8) := Lib.hid (HO8.out.kept (only_below H9.out.2.2 (Nat.le_refl _) none) (by simp))
            have HG9 : Hid (wm.grownBy v7 (some bm)) := Lib.hid (only_trans HG8.out (only_below H9.out.2.2 (Nat.le_refl _) _))
            clear HO8 HG8
            cases p2 with
            | false =>
              have HSN : Hid (SetM D8 (folUp t s (i + 1))) := Lib.hid (HS8.out.is fun x => by rw [HFS.out, HFJ.out]; simp)
              clear q1 q2
              go_wp2
              go_roundg (gk - 1)
              case measure => omega
              case rel => exact ⟨i + 1, n8, D8, by omega, by omega, by go_num, by omega, HO9, HSN, HG9⟩
            | true =>
              have e0 : v7.cell? ⟨w0.heap.size, 0, none⟩ = some (.int .i64 j1) := H9.out.1.cell 0
              have e1 : v7.cell? ⟨w0.heap.size, 1, none⟩ = some (.int .i64 j2) := H9.out.1.cell 1
              clear q1 q2
              go_wp2_with fail
              refine (HE2.out _).mono ?_
              rintro e v10 ⟨rfl, hb10⟩
              have HO10 : Hid (v10.ownsMap Try.prog 75 (plainElem Try.prog 4) bm n8 D8) := Lib.hid (HO9.out.kept (only_below hb10 (Nat.le_refl _) none) (by simp))
              have HG10 : Hid (wm.grownBy v10 (some bm)) := Lib.hid (only_trans HG9.out (only_below hb10 (Nat.le_refl _) _))
              clear hb10 e0 e1 HO9 HG9 H9
              have hmx : n8 < maxLen := by unfold maxLen; omega
              go_wp2_with (at_mapUpdate; refine wpList_mapUpdate_own _ rfl _ _ _ 130 rfl 75 4 keyed13 Try.underlying130 (plainElem Try.prog 4) bm n8 D8 rfl HO10.out hmx _ _ (stK (enS (j1, j2))) rfl rfl (keyOf_st HWE.out.1) (.lit (.bool true)) [] (plainElem_bool Try.underlying4 true) ?_; intro v11 ho11 hg11)
              have HG11 : Hid (wm.grownBy v11 (some bm)) := Lib.hid (only_trans HG10.out hg11)
              have HO11 := Lib.hid ho11
              have HSN : Hid (SetM (D8.put (stK (enS (j1, j2))) (.lit (.bool true))) (folUp t s (i + 1))) := Lib.hid ((HS8.out.put HWE.out.1).is fun x => by rw [HFS.out, HFJ.out]; first | (simp; done) | (simp [Bool.or_assoc]; done))
              clear ho11 hg11
              go_roundg (gk - 1)
              case measure => omega
              case rel => exact ⟨i + 1, n8 + 1, _, by omega, by omega, by go_num, by omega, HO11, HSN, HG11⟩
          exact AllReadyH.nil
      exact AllReadyH.nil

end Go.Proofs.Yteioefgckigbcaa
