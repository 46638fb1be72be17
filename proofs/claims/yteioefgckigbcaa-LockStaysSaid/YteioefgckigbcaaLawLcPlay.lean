/-
  linesidelaw16: few, play.
-/
import Derived.Test.YteioefgckigbcaaLawAwake16

import Derived.Test.YteioefgckigbcaaOpenLc

import Derived.BigQuiet

import Derived.IntWalk

namespace Go.Proofs.Yteioefgckigbcaa

open Go.RowKit

open Go.Great

set_option maxRecDepth 100000 in
set_option maxHeartbeats 8000000 in
theorem few16_any (t : Tp3) (a : TpA) (A : Option Addr) (n c : Nat) (w : World) (ht : TopR w t a) :
    Calls Try.prog 6 #[.agg (tpC t a), .slice A n c] w fun e w' => e = .returned (.bool (lightT t && decide (n ≤ 100))) ∧ Below w.heap.size w w' := by
  obtain ⟨wa, hwa⟩ : ∃ wa, w.alloc (.cells (tpC t a) 27) = wa := ⟨_, rfl⟩
  have hbwa : Below w.heap.size w wa := by rw [← hwa]; exact (Below.refl _ _).alloc (Nat.le_refl _) _
  have h0 : Has wa (w.heap.size) 27 (tpC t a) := by rw [← hwa]; exact (Has.made _ _ _)
  have HWA := Lib.hid hwa; have HBWA := Lib.hid hbwa
  have H := Lib.hid (rlight_any13 t a wa (ht.under hbwa))
  have H0 := Lib.hid h0
  clear hwa hbwa h0 ht
  generalize lightT t = q at *
  cases q with
  | false =>
    rw [Bool.false_and]
    go_enter Try.func6, Try.ntmps6
    go_upto_region 1 with fail
    rw [HWA.out]
    clear HWA
    go_wp2_with (with_reducible refine wpList_load_row (o := ⟨some 6, _, _, _, _, _⟩) rfl 27 _ rfl (w.heap.size) rfl 27 (tpC t a) (0, 0) _ (H0.out).raw11 Try.underlying27 rfl (by kernel_rfl) ?_)
    refine H.out.mono ?_
    rintro e_ w1 ⟨rfl, hb1⟩
    have HB1 := Lib.hid (HBWA.out.trans (hb1.mono HBWA.out.size))
    clear hb1 H H0 HBWA
    go_wp2
    go_ret
    exact ⟨by first | rfl | (simp; done) | (simp; omega), HB1.out⟩
  | true =>
    rw [Bool.true_and]
    by_cases z : n ≤ 100
    · have z1 : (n : Int) ≤ 100 := by omega
      rw [decide_eq_true z]
      go_enter Try.func6, Try.ntmps6
      go_upto_region 1 with fail
      rw [HWA.out]
      clear HWA
      go_wp2_with (with_reducible refine wpList_load_row (o := ⟨some 6, _, _, _, _, _⟩) rfl 27 _ rfl (w.heap.size) rfl 27 (tpC t a) (0, 0) _ (H0.out).raw11 Try.underlying27 rfl (by kernel_rfl) ?_)
      refine H.out.mono ?_
      rintro e_ w1 ⟨rfl, hb1⟩
      have HB1 := Lib.hid (HBWA.out.trans (hb1.mono HBWA.out.size))
      clear hb1 H H0 HBWA
      go_wp2
      go_ret
      exact ⟨by first | rfl | (simp; done) | (simp; omega), HB1.out⟩
    · have z1 : ¬ (n : Int) ≤ 100 := by omega
      rw [decide_eq_false z]
      go_enter Try.func6, Try.ntmps6
      go_upto_region 1 with fail
      rw [HWA.out]
      clear HWA
      go_wp2_with (with_reducible refine wpList_load_row (o := ⟨some 6, _, _, _, _, _⟩) rfl 27 _ rfl (w.heap.size) rfl 27 (tpC t a) (0, 0) _ (H0.out).raw11 Try.underlying27 rfl (by kernel_rfl) ?_)
      refine H.out.mono ?_
      rintro e_ w1 ⟨rfl, hb1⟩
      have HB1 := Lib.hid (HBWA.out.trans (hb1.mono HBWA.out.size))
      clear hb1 H H0 HBWA
      go_wp2
      go_ret
      exact ⟨by first | rfl | (simp; done) | (simp; omega), HB1.out⟩

theorem SlO.op16 {w : World} {A : Option Addr} {n c : Nat} {l : List Op4} (h : SlO opC16 4 w A n c l) {j : Nat} {x : Op4} (hx : l[j]? = some x) :
    ∃ b off, A = some ⟨b, off, none⟩ ∧ ∀ W, Below w.heap.size w W → W.cell? ⟨b, off + j * 4, none⟩ = some (.bool x.free) ∧ W.cell? ⟨b, off + j * 4 + 1, none⟩ = some (.int .i64 x.route) ∧ W.cell? ⟨b, off + j * 4 + 2, none⟩ = some (.int .i64 x.train) ∧ W.cell? ⟨b, off + j * 4 + 3, none⟩ = some (.int .i64 x.no) := by
  obtain ⟨b, off, rfl, _⟩ := h.at_ (fun _ => rfl) (by decide) hx
  refine ⟨b, off, rfl, fun W hW => ?_⟩
  obtain ⟨b', o', e, h1⟩ := (h.under hW).at_ (fun _ => rfl) (by decide) hx
  injection e with e
  injection e with e1 e2 _
  subst e1 e2
  exact ⟨h1 0 _ rfl, h1 1 _ rfl, h1 2 _ rfl, h1 3 _ rfl⟩
theorem play_step16 {t : Tp3} {x : It3} {l : List Op4} {i : Nat} {o : Op4} (h : l[i]? = some o) : playI t x (l.take (i + 1)) = stepI t (playI t x (l.take i)) o := by
  rw [List.take_add_one, h]
  exact playI_snoc _ _ _ _

set_option maxRecDepth 100000 in
set_option maxHeartbeats 20000000 in
theorem play16_any (t : Tp3) (a : TpA) (l : List Op4) (A : Option Addr) (n c : Nat) (w : World) (ht : TopR w t a) (hl : lightT t = true) (hcj : t.joints.length ≤ a.cj) (hs : SlO opC16 4 w A n c l) (hn : n ≤ 1000) (hm : mayB t ⟨[], 1⟩ = true) :
    Calls Try.prog 9 #[.agg (tpC t a), .slice A n c] w fun r w' => ∃ X k x, r = .returned (.tuple #[.agg #[.slice X k x, .int .i64 (playI t ⟨[], 1⟩ l).next], .bool true]) ∧ LkT w' X k x (playI t ⟨[], 1⟩ l).locks ∧ Below w.heap.size w w' := by
  obtain ⟨wa, hwa⟩ : ∃ wa, (w.alloc (.cells (tpC t a) 27)).alloc (.cells #[.slice none 0 0, .int .i64 0] 34) = wa := ⟨_, rfl⟩
  have hbwa : Below w.heap.size w wa := by rw [← hwa]; exact ((Below.refl _ _).alloc (Nat.le_refl _) _).alloc (by simp) _
  have h0 : Has wa (w.heap.size) 27 (tpC t a) := by rw [← hwa]; exact ((Has.made _ _ _).beside _)
  have h1 : Has wa (w.heap.size + 1) 34 #[.slice none 0 0, .int .i64 0] := by rw [← hwa]; exact (has_at11 (by simp))
  have HWA := Lib.hid hwa; have HBWA := Lib.hid hbwa
  have HT := Lib.hid (fun W (hW : Below w.heap.size w W) => ht.under hW)
  have H0 := Lib.hid (fun W (hW : Below wa.heap.size wa W) => h0.under hW h0.lt)
  have H1 := Lib.hid (fun W (hW : Below wa.heap.size wa W) => h1.under hW h1.lt)
  have HBA := Lib.hid (fun W (hW : Below wa.heap.size wa W) => hbwa.trans (hW.mono hbwa.size))
  have HSZ := Lib.hid (show w.heap.size + 2 ≤ wa.heap.size from by rw [← hwa]; simp)
  have HLT := Lib.hid hl
  have HS := Lib.hid hs
  have HL := Lib.hid hs.1
  have HCJ := Lib.hid hcj
  have HNB := Lib.hid hn
  have HM0 := Lib.hid hm
  clear hwa hbwa h0 h1 ht hl hs hcj hn hm
  obtain ⟨PL, hPL⟩ : ∃ PL, playI t ⟨[], 1⟩ l = PL := ⟨_, rfl⟩
  rw [hPL]
  have HPLL := Lib.hid hPL
  clear hPL
  go_enter Try.func9, Try.ntmps9
  go_upto_region 1 with fail
  rw [HWA.out]
  clear HWA
  go_wp2_with fail
  refine (olc_new wa).mono ?_
  rintro e_ w1 ⟨X0, x0, rfl, hk, hb1⟩
  go_upto_region 2 with fail
  obtain ⟨u1, hu1⟩ : ∃ u1, w1.alloc (.cells #[.slice X0 0 x0, .int .i64 1] 34) = u1 := ⟨_, rfl⟩
  rw [hu1]
  have HX1 : Hid (Has u1 w1.heap.size 34 #[.slice X0 0 x0, .int .i64 1]) := Lib.hid (by rw [← hu1]; exact Has.made _ _ _)
  have HK1 := Lib.hid (show LkT u1 X0 0 x0 [] from hk.under (by rw [← hu1]; exact (Below.refl _ _).alloc (Nat.le_refl _) _))
  have HB1 := Lib.hid (show Below wa.heap.size wa u1 from by rw [← hu1]; exact hb1.alloc hb1.size _)
  obtain ⟨g6, hg6⟩ : ∃ g, w1.heap.size = g := ⟨_, rfl⟩
  have HG6 := Lib.hid (show wa.heap.size ≤ g6 from by rw [← hg6]; exact hb1.size)
  rw [hg6] at HX1
  simp only [hg6]
  clear hu1 hg6 hk hb1
  have hx0 : (0 : Int) ≤ n := by omega
  go_wp2
  go_loopg [7] n (fun kk v7 wl => ∃ (i : Nat) (X : Option Addr) (k x : Nat) (yl : List Lc3) (yn : Int), i ≤ n ∧ n - i ≤ kk ∧ v7 = .int .i64 i ∧ Hid (playI t ⟨[], 1⟩ (l.take i) = ⟨yl, yn⟩) ∧ Hid (mayB t ⟨yl, yn⟩ = true) ∧ Hid (Has wl g6 34 #[.slice X k x, .int .i64 yn]) ∧ Hid (LkT wl X k x yl) ∧ Hid (Below wa.heap.size wa wl))
  case atStart => exact ⟨0, X0, 0, x0, [], 1, by omega, by omega, rfl, Lib.hid rfl, HM0, HX1, HK1, HB1⟩
  case round =>
    obtain ⟨i, X, k, x, yl, yn, hi, hik, rfl, HPL, HMY, HX, HK, HB⟩ := hrel
    clear HX1 HK1 HB1
    obtain ⟨k1, hk1⟩ : ∃ k1, k1 = gk := ⟨_, rfl⟩
    subst hk1
    obtain ⟨wv, hwv⟩ : ∃ wv, wv = wr := ⟨_, rfl⟩
    subst hwv
    have HKL : Hid (k ≤ 24) := Lib.hid (by have h1_ := HK.out.1.1; have h2_ := (may_iff.1 HMY.out).few; dsimp only at h2_; omega)
    by_cases hlt : i < n
    rotate_left
    · obtain rfl : i = n := by omega
      have x1 : ¬ (i : Int) < i := by omega
      obtain rfl : PL = ⟨yl, yn⟩ := by rw [← HPLL.out, ← HPL.out, List.take_of_length_le (by rw [HL.out]; exact Nat.le_refl _)]
      have HZ := Lib.hid (H1.out wv HB.out)
      have HR := Lib.hid (has_row11 HZ.out #[.slice X k x, .int .i64 yn])
      have HLR := Lib.hid (LkT.row HK.out HZ.out (by decide) #[.slice X k x, .int .i64 yn])
      have HBF := Lib.hid (below_row (g := w.heap.size + 1) (HBA.out _ HB.out) (by omega) #[.slice X k x, .int .i64 yn])
      clear hik hlt hi HPL
      go_wp2_with (first | (with_reducible refine wpList_load_row (o := ⟨some 64, _, _, _, _, _⟩) rfl 34 _ rfl (g6) rfl 34 #[.slice X k x, .int .i64 yn] (0, 0) _ (HX.out).raw11 Try.underlying34 rfl (by kernel_rfl) ?_) | (with_reducible refine wpList_store_rowTo (o := ⟨none, _, _, _, _, _⟩) rfl 34 _ _ rfl rfl (w.heap.size + 1) #[.slice X k x, .int .i64 yn] rfl rfl 34 _ (HZ.out).raw11 (by kernel_rfl) (by kernel_rfl) (by kernel_rfl) ?_))
      refine bodyPost_ret (results_row_tmp11 rfl _ _ (w.heap.size + 1) 34 _ _ rfl HR.out Try.underlying34 rfl (by kernel_rfl)) rfl ?_
      exact ⟨X, k, x, rfl, HLR.out, HBF.out⟩
    obtain ⟨op, hop⟩ : ∃ op, l[i]? = some op := ⟨_, List.getElem?_eq_getElem (by rw [HL.out]; exact hlt)⟩
    have HST := Lib.hid (show playI t ⟨[], 1⟩ (l.take (i + 1)) = stepI t ⟨yl, yn⟩ op from by rw [play_step16 hop, HPL.out])
    obtain ⟨bk, off, rfl, hc⟩ := HS.out.op16 hop
    have HC := Lib.hid hc
    obtain ⟨d0, -⟩ := hc wv (HBA.out _ HB.out)
    clear hop hc HPL
    obtain ⟨ofr, ort, otr, ono⟩ := op
    dsimp only at *
    unfold stepI at HST
    dsimp only at HST
    have x1 : (i : Int) < n := by omega
    have x2 : (0 : Int) ≤ i := by omega
    have HIN := Lib.hid (show i < n ∧ n - i ≤ k1 from ⟨hlt, hik⟩)
    clear hlt hi hik
    cases ofr with
    | false =>
      rw [if_neg (by decide)] at HST
      obtain ⟨E, hE⟩ : ∃ E, setE t ⟨yl, yn⟩ ort otr = E := ⟨_, rfl⟩
      have HE := Lib.hid hE
      rw [hE] at HST
      clear hE
      obtain ⟨⟨el, en⟩, eo, ee⟩ := E
      dsimp only at HST
      go_upto_region 9 with fail
      go_cut [10, 12] (fun s8 s12 wx => s12 = .int .i64 ee ∧ ∃ g8 X8 k8 x8, s8 = .pointer (some ⟨g8, 0, none⟩) ∧ Has wx g8 34 #[.slice X8 k8 x8, .int .i64 en] ∧ LkT wx X8 k8 x8 el ∧ Has wx g6 34 #[.slice X k x, .int .i64 yn] ∧ LkT wx X k x yl ∧ Below wa.heap.size wa wx)
      case first =>
        refine wp_region_held_drew (S := (fun W_ => (Has W_ (w.heap.size) 27 (tpC t a)) ∧ (Has W_ (g6) 34 #[.slice X k x, .int .i64 yn]) ∧ (LkT W_ X k x (yl)) ∧ (Below wa.heap.size wa W_))) (by kernel_rfl) ?_ (fun hHeld => ?_)
        · exact ⟨(H0.out _ HB.out).draw, HX.out.draw, HK.out.under (below_dr11 (Below.refl _ _)), below_dr11 HB.out⟩
        refine wpAnyH_take (i := 0) (oi := ⟨some 40, _, _, _, _, _⟩) (v := .agg (tpC t a)) rfl (by kernel_rfl) (by kernel_rfl) (by kernel_rfl) (fun _ _ _ h => h) (yields_load_row11 27 _ rfl (w.heap.size) rfl 27 (tpC t a) _ (fun _ ⟨h_, _, _, _⟩ => h_) Try.underlying27 rfl (by kernel_rfl) (by rfl)) (by assumption) ?_
        simp only [Act.put, List.setIfInBounds_toArray, List.set_cons_zero, List.set_cons_succ]
        refine wpAnyH_take (i := 1) (oi := ⟨some 41, _, _, _, _, _⟩) (v := .agg #[.slice X k x, .int .i64 yn]) rfl (by kernel_rfl) (by kernel_rfl) (by kernel_rfl) (fun _ _ _ h => h) (yields_load_row11 34 _ rfl (g6) rfl 34 #[.slice X k x, .int .i64 yn] _ (fun _ ⟨_, h_, _, _⟩ => h_) Try.underlying34 rfl (by kernel_rfl) (by rfl)) (by assumption) ?_
        simp only [Act.put, List.setIfInBounds_toArray, List.set_cons_zero, List.set_cons_succ]
        refine wpAnyH_take (i := 2) (oi := ⟨some 42, _, _, _, _, _⟩) (v := ?_) rfl (by kernel_rfl) (by kernel_rfl) (by kernel_rfl) (fun _ _ _ h => h) (Or.inl ⟨by rfl, ?_⟩) (by assumption) ?_
        rotate_left
        · intro w_ hSw; (try dsimp only at hSw); go_simp <;> with_reducible rfl
        simp only [Act.put, List.setIfInBounds_toArray, List.set_cons_zero, List.set_cons_succ]
        refine wpAnyH_take (i := 3) (oi := ⟨some 43, _, _, _, _, _⟩) (v := ?_) rfl (by kernel_rfl) (by kernel_rfl) (by kernel_rfl) (fun _ _ _ h => h) (Or.inl ⟨by rfl, ?_⟩) (by assumption) ?_
        rotate_left
        · intro w_ hSw; (try dsimp only at hSw); go_simp <;> with_reducible rfl
        simp only [Act.put, List.setIfInBounds_toArray, List.set_cons_zero, List.set_cons_succ]
        refine wpAnyH_take (i := 4) (oi := ⟨some 44, _, _, _, _, _⟩) (v := ?_) rfl (by kernel_rfl) (by kernel_rfl) (by kernel_rfl) (fun _ _ _ h => h) (Or.inl ⟨by rfl, ?_⟩) (by assumption) ?_
        rotate_left
        · intro w_ hSw; (try dsimp only at hSw); go_simp <;> with_reducible rfl
        simp only [Act.put, List.setIfInBounds_toArray, List.set_cons_zero, List.set_cons_succ]
        refine wpAnyH_take (i := 5) (oi := ⟨some 45, _, _, _, _, _⟩) (v := ?_) rfl (by kernel_rfl) (by kernel_rfl) (by kernel_rfl) (fun _ _ _ h => h) (Or.inl ⟨by rfl, ?_⟩) (by assumption) ?_
        rotate_left
        · intro w_ hSw; (try dsimp only at hSw); go_simp <;> with_reducible rfl
        simp only [Act.put, List.setIfInBounds_toArray, List.set_cons_zero, List.set_cons_succ]
        refine wpAnyH_take (i := 6) (oi := ⟨some 46, _, _, _, _, _⟩) (v := ?_) rfl (by kernel_rfl) (by kernel_rfl) (by kernel_rfl) (fun _ _ _ h => h) (Or.inl ⟨by rfl, ?_⟩) (by assumption) ?_
        rotate_left
        · intro w_ hSw; (try dsimp only at hSw); obtain ⟨s0, s1, s2, s3⟩ := hSw; (have q_ := (HC.out w_ (HBA.out _ s3)).2.1); go_simp <;> with_reducible rfl
        simp only [Act.put, List.setIfInBounds_toArray, List.set_cons_zero, List.set_cons_succ]
        refine wpAnyH_take (i := 7) (oi := ⟨some 47, _, _, _, _, _⟩) (v := ?_) rfl (by kernel_rfl) (by kernel_rfl) (by kernel_rfl) (fun _ _ _ h => h) (Or.inl ⟨by rfl, ?_⟩) (by assumption) ?_
        rotate_left
        · intro w_ hSw; (try dsimp only at hSw); go_simp <;> with_reducible rfl
        simp only [Act.put, List.setIfInBounds_toArray, List.set_cons_zero, List.set_cons_succ]
        refine wpAnyH_take (i := 8) (oi := ⟨some 48, _, _, _, _, _⟩) (v := ?_) rfl (by kernel_rfl) (by kernel_rfl) (by kernel_rfl) (fun _ _ _ h => h) (Or.inl ⟨by rfl, ?_⟩) (by assumption) ?_
        rotate_left
        · intro w_ hSw; (try dsimp only at hSw); go_simp <;> with_reducible rfl
        simp only [Act.put, List.setIfInBounds_toArray, List.set_cons_zero, List.set_cons_succ]
        refine wpAnyH_take (i := 9) (oi := ⟨some 49, _, _, _, _, _⟩) (v := ?_) rfl (by kernel_rfl) (by kernel_rfl) (by kernel_rfl) (fun _ _ _ h => h) (Or.inl ⟨by rfl, ?_⟩) (by assumption) ?_
        rotate_left
        · intro w_ hSw; (try dsimp only at hSw); go_simp <;> with_reducible rfl
        simp only [Act.put, List.setIfInBounds_toArray, List.set_cons_zero, List.set_cons_succ]
        refine wpAnyH_take (i := 10) (oi := ⟨some 50, _, _, _, _, _⟩) (v := ?_) rfl (by kernel_rfl) (by kernel_rfl) (by kernel_rfl) (fun _ _ _ h => h) (Or.inl ⟨by rfl, ?_⟩) (by assumption) ?_
        rotate_left
        · intro w_ hSw; (try dsimp only at hSw); go_simp <;> with_reducible rfl
        simp only [Act.put, List.setIfInBounds_toArray, List.set_cons_zero, List.set_cons_succ]
        refine wpAnyH_take (i := 11) (oi := ⟨some 51, _, _, _, _, _⟩) (v := ?_) rfl (by kernel_rfl) (by kernel_rfl) (by kernel_rfl) (fun _ _ _ h => h) (Or.inl ⟨by rfl, ?_⟩) (by assumption) ?_
        rotate_left
        · intro w_ hSw; (try dsimp only at hSw); obtain ⟨s0, s1, s2, s3⟩ := hSw; (have q_ := (HC.out w_ (HBA.out _ s3)).2.2.1); go_simp <;> with_reducible rfl
        simp only [Act.put, List.setIfInBounds_toArray, List.set_cons_zero, List.set_cons_succ]
        refine wpAnyH_ready (rs := [12, 17]) (by kernel_rfl) (by simp) ?_
        refine AllReadyH.cons (o := ⟨some 52, _, _, _, _, _⟩) rfl (fun K hK => ?_) ?_
        · go_simp
          obtain ⟨s0, s1, s2, s3⟩ := hHeld
          refine (olc_set t a yl yn X k x _ ort otr (HT.out _ (HBA.out _ s3)) HLT.out HCJ.out s2.1 s2.2.1 (by have := HKL.out; omega)).mono ?_
          rw [HE.out]
          rintro e_ q1 ⟨X8, k8, x8, rfl, hl_, hb_⟩
          dsimp only at hl_ ⊢
          have HN := Lib.hid (hl_)
          go_wp2_with fail
          refine hK.out _ _ ?_ (fun hHeld => ?_)
          · exact ⟨s0.under hb_ s0.lt, s1.under hb_ s1.lt, s2.under hb_, s3.trans (hb_.mono s3.size)⟩
          clear hK K s0 s1 s2 s3
          try simp only [Act.put, List.setIfInBounds_toArray, List.set_cons_zero, List.set_cons_succ]
          refine wpAnyH_take (i := 13) (oi := ⟨some 39, _, _, _, _, _⟩) (v := ?_) rfl (by kernel_rfl) (by kernel_rfl) (by kernel_rfl) (fun _ _ _ h => h) (Or.inl ⟨by rfl, ?_⟩) (by assumption) ?_
          rotate_left
          · intro w_ hSw; (try dsimp only at hSw); go_simp <;> with_reducible rfl
          simp only [Act.put, List.setIfInBounds_toArray, List.set_cons_zero, List.set_cons_succ]
          refine wpAnyH_take (i := 14) (oi := ⟨some 53, _, _, _, _, _⟩) (v := ?_) rfl (by kernel_rfl) (by kernel_rfl) (by kernel_rfl) (fun _ _ _ h => h) (Or.inl ⟨by rfl, ?_⟩) (by assumption) ?_
          rotate_left
          · intro w_ hSw; (try dsimp only at hSw); go_simp <;> with_reducible rfl
          simp only [Act.put, List.setIfInBounds_toArray, List.set_cons_zero, List.set_cons_succ]
          refine wpAnyH_take (i := 15) (oi := ⟨some 54, _, _, _, _, _⟩) (v := ?_) rfl (by kernel_rfl) (by kernel_rfl) (by kernel_rfl) (fun _ _ _ h => h) (Or.inl ⟨by rfl, ?_⟩) (by assumption) ?_
          rotate_left
          · intro w_ hSw; (try dsimp only at hSw); go_simp <;> with_reducible rfl
          simp only [Act.put, List.setIfInBounds_toArray, List.set_cons_zero, List.set_cons_succ]
          refine wpAnyH_take (i := 16) (oi := ⟨some 55, _, _, _, _, _⟩) (v := ?_) rfl (by kernel_rfl) (by kernel_rfl) (by kernel_rfl) (fun _ _ _ h => h) (Or.inl ⟨by rfl, ?_⟩) (by assumption) ?_
          rotate_left
          · intro w_ hSw; (try dsimp only at hSw); go_simp <;> with_reducible rfl
          simp only [Act.put, List.setIfInBounds_toArray, List.set_cons_zero, List.set_cons_succ]
          refine wpAnyH_ready (rs := [17]) (by kernel_rfl) (by simp) ?_
          refine AllReadyH.cons (o := ⟨some 10, _, _, _, _, _⟩) rfl (fun K hK => ?_) ?_
          · go_simp
            obtain ⟨s0, s1, s2, s3⟩ := hHeld
            obtain ⟨g8, hg8⟩ : ∃ g8, q1.heap.size = g8 := ⟨_, rfl⟩
            have p0_g8 : w.heap.size < g8 := by rw [← hg8]; exact s0.lt
            have p1_g8 : g6 < g8 := by rw [← hg8]; exact s1.lt
            have p3_g8 : wa.heap.size ≤ g8 := by rw [← hg8]; exact s3.size
            rw [hg8]
            refine hK.out _ _ ?_ (fun hHeld => ?_)
            · exact ⟨s0.beside _, s1.beside _, s2.under ((Below.refl _ _).alloc (Nat.le_refl _) _), below_al11 s3 _⟩
            have HN := Lib.hid (HN.out.under ((Below.refl _ _).alloc (Nat.le_refl _) (.cells #[.slice none 0 0, .int .i64 0] 34)))
            refine wpAnyH_more11 (T := (fun W_ => (Has W_ (w.heap.size) 27 (tpC t a)) ∧ (Has W_ (g6) 34 #[.slice X k x, .int .i64 yn]) ∧ (LkT W_ X k x (yl)) ∧ (Below wa.heap.size wa W_) ∧ (∃ o_ : Array Value, Has W_ (g8) 34 o_ ∧ o_.size = 2))) (fun _ ⟨s0, s1, s2, s3, s4⟩ => ⟨s0, s1, s2, s3⟩) ?_
            have hHeld2 : (fun W_ => (Has W_ (w.heap.size) 27 (tpC t a)) ∧ (Has W_ (g6) 34 #[.slice X k x, .int .i64 yn]) ∧ (LkT W_ X k x (yl)) ∧ (Below wa.heap.size wa W_) ∧ (∃ o_ : Array Value, Has W_ (g8) 34 o_ ∧ o_.size = 2)) _ := ⟨s0.beside _, s1.beside _, s2.under ((Below.refl _ _).alloc (Nat.le_refl _) _), below_al11 s3 _, ⟨#[.slice none 0 0, .int .i64 0], (by rw [← hg8]; exact Has.made _ _ _), rfl⟩⟩
            clear hHeld
            have hHeld := hHeld2
            clear hHeld2
            clear hK K hg8 s0 s1 s2 s3
            try simp only [Act.put, List.setIfInBounds_toArray, List.set_cons_zero, List.set_cons_succ]
            refine wpAnyH_ready (rs := [18]) (by kernel_rfl) (by simp) ?_
            refine AllReadyH.cons (o := ⟨none, _, _, _, _, _⟩) rfl (fun K hK => ?_) ?_
            · rw [if_pos (by rfl)]
              obtain ⟨s0, s1, s2, s3, s4⟩ := hHeld
              obtain ⟨o_, h_, e_⟩ := s4
              refine wp_store_row 34 _ _ rfl (g8) #[.slice X8 k8 x8, .int .i64 en] (by rfl) (by rfl) 34 o_ h_.raw11 (by kernel_rfl) e_ (by kernel_rfl) ?_
              have HN := Lib.hid (HN.out.row h_ (by decide) #[.slice X8 k8 x8, .int .i64 en])
              refine hK.out _ _ ?_ (fun hHeld => ?_)
              · exact ⟨has_rowo11 s0 (by omega) _, has_rowo11 s1 (by omega) _, s2.row h_ (by decide) _, below_row s3 (by omega) _, ⟨_, has_row11 h_ _, rfl⟩⟩
              refine wpAnyH_more11 (T := (fun W_ => (Has W_ (w.heap.size) 27 (tpC t a)) ∧ (Has W_ (g6) 34 #[.slice X k x, .int .i64 yn]) ∧ (LkT W_ X k x (yl)) ∧ (Below wa.heap.size wa W_) ∧ (∃ o_ : Array Value, Has W_ (g8) 34 o_ ∧ o_.size = 2) ∧ (Has W_ (g8) 34 #[.slice X8 k8 x8, .int .i64 en]))) (fun _ ⟨s0, s1, s2, s3, s4, s5⟩ => ⟨s0, s1, s2, s3, s4⟩) ?_
              have hHeld2 : (fun W_ => (Has W_ (w.heap.size) 27 (tpC t a)) ∧ (Has W_ (g6) 34 #[.slice X k x, .int .i64 yn]) ∧ (LkT W_ X k x (yl)) ∧ (Below wa.heap.size wa W_) ∧ (∃ o_ : Array Value, Has W_ (g8) 34 o_ ∧ o_.size = 2) ∧ (Has W_ (g8) 34 #[.slice X8 k8 x8, .int .i64 en])) _ := ⟨has_rowo11 s0 (by omega) _, has_rowo11 s1 (by omega) _, s2.row h_ (by decide) _, below_row s3 (by omega) _, ⟨_, has_row11 h_ _, rfl⟩, has_row11 h_ _⟩
              clear hHeld
              have hHeld := hHeld2
              clear hHeld2
              clear hK K h_ e_ s0 s1 s2 s3
              try simp only [Act.put]
              refine wpAnyH_take (i := 19) (oi := ⟨some 11, _, _, _, _, _⟩) (v := ?_) rfl (by kernel_rfl) (by kernel_rfl) (by kernel_rfl) (fun _ _ _ h => h) (Or.inl ⟨by rfl, ?_⟩) (by assumption) ?_
              rotate_left
              · intro w_ hSw; (try dsimp only at hSw); go_simp <;> with_reducible rfl
              simp only [Act.put, List.setIfInBounds_toArray, List.set_cons_zero, List.set_cons_succ]
              refine wpAnyH_take (i := 20) (oi := ⟨some 12, _, _, _, _, _⟩) (v := ?_) rfl (by kernel_rfl) (by kernel_rfl) (by kernel_rfl) (fun _ _ _ h => h) (Or.inl ⟨by rfl, ?_⟩) (by assumption) ?_
              rotate_left
              · intro w_ hSw; (try dsimp only at hSw); go_simp <;> with_reducible rfl
              simp only [Act.put, List.setIfInBounds_toArray, List.set_cons_zero, List.set_cons_succ]
              refine wpAnyH_done (by kernel_rfl) ?_ _
              go_wp2_with fail
              go_meet
              exact ⟨rfl, _, _, _, _, rfl, hHeld.2.2.2.2.2, HN.out, hHeld.2.1, hHeld.2.2.1, hHeld.2.2.2.1⟩
            exact AllReadyH.nil
          exact AllReadyH.nil
        refine AllReadyH.cons (o := ⟨some 10, _, _, _, _, _⟩) rfl (fun K hK => ?_) ?_
        · go_simp
          obtain ⟨s0, s1, s2, s3⟩ := hHeld
          obtain ⟨g8, hg8⟩ : ∃ g8, wv.heap.size = g8 := ⟨_, rfl⟩
          have p0_g8 : w.heap.size < g8 := by rw [← hg8]; exact s0.lt
          have p1_g8 : g6 < g8 := by rw [← hg8]; exact s1.lt
          have p3_g8 : wa.heap.size ≤ g8 := by rw [← hg8]; exact s3.size
          rw [hg8]
          refine hK.out _ _ ?_ (fun hHeld => ?_)
          · exact ⟨s0.beside _, s1.beside _, s2.under ((Below.refl _ _).alloc (Nat.le_refl _) _), below_al11 s3 _⟩
          refine wpAnyH_more11 (T := (fun W_ => (Has W_ (w.heap.size) 27 (tpC t a)) ∧ (Has W_ (g6) 34 #[.slice X k x, .int .i64 yn]) ∧ (LkT W_ X k x (yl)) ∧ (Below wa.heap.size wa W_) ∧ (∃ o_ : Array Value, Has W_ (g8) 34 o_ ∧ o_.size = 2))) (fun _ ⟨s0, s1, s2, s3, s4⟩ => ⟨s0, s1, s2, s3⟩) ?_
          have hHeld2 : (fun W_ => (Has W_ (w.heap.size) 27 (tpC t a)) ∧ (Has W_ (g6) 34 #[.slice X k x, .int .i64 yn]) ∧ (LkT W_ X k x (yl)) ∧ (Below wa.heap.size wa W_) ∧ (∃ o_ : Array Value, Has W_ (g8) 34 o_ ∧ o_.size = 2)) _ := ⟨s0.beside _, s1.beside _, s2.under ((Below.refl _ _).alloc (Nat.le_refl _) _), below_al11 s3 _, ⟨#[.slice none 0 0, .int .i64 0], (by rw [← hg8]; exact Has.made _ _ _), rfl⟩⟩
          clear hHeld
          have hHeld := hHeld2
          clear hHeld2
          clear hK K hg8 s0 s1 s2 s3
          try simp only [Act.put, List.setIfInBounds_toArray, List.set_cons_zero, List.set_cons_succ]
          refine wpAnyH_ready (rs := [12]) (by kernel_rfl) (by simp) ?_
          refine AllReadyH.cons (o := ⟨some 52, _, _, _, _, _⟩) rfl (fun K hK => ?_) ?_
          · go_simp
            obtain ⟨s0, s1, s2, s3, s4⟩ := hHeld
            refine (olc_set t a yl yn X k x _ ort otr (HT.out _ (HBA.out _ s3)) HLT.out HCJ.out s2.1 s2.2.1 (by have := HKL.out; omega)).mono ?_
            rw [HE.out]
            rintro e_ q1 ⟨X8, k8, x8, rfl, hl_, hb_⟩
            dsimp only at hl_ ⊢
            have HN := Lib.hid (hl_)
            go_wp2_with fail
            refine hK.out _ _ ?_ (fun hHeld => ?_)
            · exact ⟨s0.under hb_ s0.lt, s1.under hb_ s1.lt, s2.under hb_, s3.trans (hb_.mono s3.size), (let ⟨o_, h_, e_⟩ := s4; ⟨o_, h_.under hb_ h_.lt, e_⟩)⟩
            clear hK K s0 s1 s2 s3 s4
            try simp only [Act.put, List.setIfInBounds_toArray, List.set_cons_zero, List.set_cons_succ]
            refine wpAnyH_take (i := 13) (oi := ⟨some 39, _, _, _, _, _⟩) (v := ?_) rfl (by kernel_rfl) (by kernel_rfl) (by kernel_rfl) (fun _ _ _ h => h) (Or.inl ⟨by rfl, ?_⟩) (by assumption) ?_
            rotate_left
            · intro w_ hSw; (try dsimp only at hSw); go_simp <;> with_reducible rfl
            simp only [Act.put, List.setIfInBounds_toArray, List.set_cons_zero, List.set_cons_succ]
            refine wpAnyH_take (i := 14) (oi := ⟨some 53, _, _, _, _, _⟩) (v := ?_) rfl (by kernel_rfl) (by kernel_rfl) (by kernel_rfl) (fun _ _ _ h => h) (Or.inl ⟨by rfl, ?_⟩) (by assumption) ?_
            rotate_left
            · intro w_ hSw; (try dsimp only at hSw); go_simp <;> with_reducible rfl
            simp only [Act.put, List.setIfInBounds_toArray, List.set_cons_zero, List.set_cons_succ]
            refine wpAnyH_take (i := 15) (oi := ⟨some 54, _, _, _, _, _⟩) (v := ?_) rfl (by kernel_rfl) (by kernel_rfl) (by kernel_rfl) (fun _ _ _ h => h) (Or.inl ⟨by rfl, ?_⟩) (by assumption) ?_
            rotate_left
            · intro w_ hSw; (try dsimp only at hSw); go_simp <;> with_reducible rfl
            simp only [Act.put, List.setIfInBounds_toArray, List.set_cons_zero, List.set_cons_succ]
            refine wpAnyH_take (i := 16) (oi := ⟨some 55, _, _, _, _, _⟩) (v := ?_) rfl (by kernel_rfl) (by kernel_rfl) (by kernel_rfl) (fun _ _ _ h => h) (Or.inl ⟨by rfl, ?_⟩) (by assumption) ?_
            rotate_left
            · intro w_ hSw; (try dsimp only at hSw); go_simp <;> with_reducible rfl
            simp only [Act.put, List.setIfInBounds_toArray, List.set_cons_zero, List.set_cons_succ]
            refine wpAnyH_ready (rs := [18]) (by kernel_rfl) (by simp) ?_
            refine AllReadyH.cons (o := ⟨none, _, _, _, _, _⟩) rfl (fun K hK => ?_) ?_
            · rw [if_pos (by rfl)]
              obtain ⟨s0, s1, s2, s3, s4⟩ := hHeld
              obtain ⟨o_, h_, e_⟩ := s4
              refine wp_store_row 34 _ _ rfl (g8) #[.slice X8 k8 x8, .int .i64 en] (by rfl) (by rfl) 34 o_ h_.raw11 (by kernel_rfl) e_ (by kernel_rfl) ?_
              have HN := Lib.hid (HN.out.row h_ (by decide) #[.slice X8 k8 x8, .int .i64 en])
              refine hK.out _ _ ?_ (fun hHeld => ?_)
              · exact ⟨has_rowo11 s0 (by omega) _, has_rowo11 s1 (by omega) _, s2.row h_ (by decide) _, below_row s3 (by omega) _, ⟨_, has_row11 h_ _, rfl⟩⟩
              refine wpAnyH_more11 (T := (fun W_ => (Has W_ (w.heap.size) 27 (tpC t a)) ∧ (Has W_ (g6) 34 #[.slice X k x, .int .i64 yn]) ∧ (LkT W_ X k x (yl)) ∧ (Below wa.heap.size wa W_) ∧ (∃ o_ : Array Value, Has W_ (g8) 34 o_ ∧ o_.size = 2) ∧ (Has W_ (g8) 34 #[.slice X8 k8 x8, .int .i64 en]))) (fun _ ⟨s0, s1, s2, s3, s4, s5⟩ => ⟨s0, s1, s2, s3, s4⟩) ?_
              have hHeld2 : (fun W_ => (Has W_ (w.heap.size) 27 (tpC t a)) ∧ (Has W_ (g6) 34 #[.slice X k x, .int .i64 yn]) ∧ (LkT W_ X k x (yl)) ∧ (Below wa.heap.size wa W_) ∧ (∃ o_ : Array Value, Has W_ (g8) 34 o_ ∧ o_.size = 2) ∧ (Has W_ (g8) 34 #[.slice X8 k8 x8, .int .i64 en])) _ := ⟨has_rowo11 s0 (by omega) _, has_rowo11 s1 (by omega) _, s2.row h_ (by decide) _, below_row s3 (by omega) _, ⟨_, has_row11 h_ _, rfl⟩, has_row11 h_ _⟩
              clear hHeld
              have hHeld := hHeld2
              clear hHeld2
              clear hK K h_ e_ s0 s1 s2 s3
              try simp only [Act.put]
              refine wpAnyH_take (i := 19) (oi := ⟨some 11, _, _, _, _, _⟩) (v := ?_) rfl (by kernel_rfl) (by kernel_rfl) (by kernel_rfl) (fun _ _ _ h => h) (Or.inl ⟨by rfl, ?_⟩) (by assumption) ?_
              rotate_left
              · intro w_ hSw; (try dsimp only at hSw); go_simp <;> with_reducible rfl
              simp only [Act.put, List.setIfInBounds_toArray, List.set_cons_zero, List.set_cons_succ]
              refine wpAnyH_take (i := 20) (oi := ⟨some 12, _, _, _, _, _⟩) (v := ?_) rfl (by kernel_rfl) (by kernel_rfl) (by kernel_rfl) (fun _ _ _ h => h) (Or.inl ⟨by rfl, ?_⟩) (by assumption) ?_
              rotate_left
              · intro w_ hSw; (try dsimp only at hSw); go_simp <;> with_reducible rfl
              simp only [Act.put, List.setIfInBounds_toArray, List.set_cons_zero, List.set_cons_succ]
              refine wpAnyH_done (by kernel_rfl) ?_ _
              go_wp2_with fail
              go_meet
              exact ⟨rfl, _, _, _, _, rfl, hHeld.2.2.2.2.2, HN.out, hHeld.2.1, hHeld.2.2.1, hHeld.2.2.2.1⟩
            exact AllReadyH.nil
          exact AllReadyH.nil
        exact AllReadyH.nil
      case rest =>
        obtain ⟨rfl, g8, X8, k8, x8, rfl, h8_, hl8_, hx_, hk_, hb_⟩ := hcut
        have H8 := Lib.hid h8_; have HL8 := Lib.hid hl8_; have HX := Lib.hid hx_; have HK := Lib.hid hk_; have HB := Lib.hid hb_
        clear h8_ hl8_ hx_ hk_ hb_
        obtain ⟨u2, hu2⟩ : ∃ u2, u2 = wc := ⟨_, rfl⟩
        subst hu2
        clear d0
        by_cases z0 : ee = 0
        rotate_left
        · have q0 : (ee == 0) = false := by simp [z0]
          have HST2 := Lib.hid (HST.out.trans (if_neg z0))
          clear H8 HL8 HST HE
          have HMN : Hid (mayB t ⟨yl, yn⟩ = true) := Lib.hid (HMY.out)
          have HKN : Hid (k ≤ 24) := Lib.hid (by have h1_ := HK.out.1.1; have h2_ := (may_iff.1 HMN.out).few; dsimp only at h2_; omega)
          go_upto_region 12 with fail
          go_wp2_with (first | (with_reducible refine wpList_load_row (o := ⟨some 59, _, _, _, _, _⟩) rfl 27 _ rfl (w.heap.size) rfl 27 (tpC t a) (0, 0) _ ((H0.out u2 HB.out)).raw11 Try.underlying27 rfl (by kernel_rfl) ?_) | (with_reducible refine wpList_load_row (o := ⟨some 60, _, _, _, _, _⟩) rfl 34 _ rfl (g6) rfl 34 #[.slice X k x, .int .i64 yn] (0, 0) _ (HX.out).raw11 Try.underlying34 rfl (by kernel_rfl) ?_))
          refine (olc_may t a yl yn X k x u2 (HT.out _ (HBA.out _ HB.out)) HLT.out HCJ.out HK.out.1 HK.out.2.1 (by have := HKN.out; omega)).mono ?_
          rw [HMN.out]
          rintro e_ wz ⟨rfl, hbz⟩
          have HX2 := Lib.hid (HX.out.under hbz HX.out.lt)
          have HK2 := Lib.hid (HK.out.under hbz)
          have HB2 := Lib.hid (HB.out.trans (hbz.mono HB.out.size))
          clear hbz HX HK HB
          go_wp2
          go_roundg (k1 - 1)
          case measure => have := HIN.out; omega
          case rel =>
            exact ⟨i + 1, X, k, x, yl, yn, by have := HIN.out; omega, by have := HIN.out; omega, by rw [IntWalk.wrap64_in _ (by have h1_ := HIN.out; have h2_ := HNB.out; omega)]; go_num, Lib.hid (by rw [HST2.out]), HMN, HX2, HK2, HB2⟩
        subst z0
        have HST2 := Lib.hid (HST.out.trans (if_pos rfl))
        have HMZ := Lib.hid (show mayB t ⟨el, en⟩ = true from by have h_ := set_may (t := t) (x := ⟨yl, yn⟩) (route := ort) (train := otr) (by rw [HE.out]); have h2_ := h_.1.symm.trans HE.out; simp only [Prod.mk.injEq] at h2_; rw [← h2_.1]; exact h_.2.1)
        go_upto_region 11 with fail
        obtain ⟨u3, hu3⟩ : ∃ u3, u2.setRow g6 #[.slice X8 k8 x8, .int .i64 en] = u3 := ⟨_, rfl⟩
        have HU3 := Lib.hid hu3
        have HXN := Lib.hid (show Has u3 g6 34 #[.slice X8 k8 x8, .int .i64 en] from by rw [← hu3]; exact has_row11 HX.out _)
        have HKN_ := Lib.hid (show LkT u3 X8 k8 x8 el from by rw [← hu3]; exact LkT.row HL8.out HX.out (by decide) _)
        have HBN := Lib.hid (show Below wa.heap.size wa u3 from by rw [← hu3]; exact below_row (g := g6) HB.out HG6.out _)
        clear hu3 HST HE
        go_upto_region 12 with (first | (with_reducible refine wpList_load_row (o := ⟨some 58, _, _, _, _, _⟩) rfl 34 _ rfl (g8) rfl 34 #[.slice X8 k8 x8, .int .i64 en] (0, 0) _ (H8.out).raw11 Try.underlying34 rfl (by kernel_rfl) ?_) | (with_reducible refine wpList_store_rowTo (o := ⟨none, _, _, _, _, _⟩) rfl 34 _ _ rfl rfl (g6) #[.slice X8 k8 x8, .int .i64 en] rfl rfl 34 _ (HX.out).raw11 (by kernel_rfl) (by kernel_rfl) (by kernel_rfl) ?_))
        rw [HU3.out]
        clear HU3 H8 HL8 HX HK HB
        have HX := HXN; have HK := HKN_; have HB := HBN
        clear HXN HKN_ HBN
        have HMN : Hid (mayB t ⟨el, en⟩ = true) := Lib.hid (HMZ.out)
        have HKN : Hid (k8 ≤ 24) := Lib.hid (by have h1_ := HK.out.1.1; have h2_ := (may_iff.1 HMN.out).few; dsimp only at h2_; omega)
        skip
        go_wp2_with (first | (with_reducible refine wpList_load_row (o := ⟨some 59, _, _, _, _, _⟩) rfl 27 _ rfl (w.heap.size) rfl 27 (tpC t a) (0, 0) _ ((H0.out u3 HB.out)).raw11 Try.underlying27 rfl (by kernel_rfl) ?_) | (with_reducible refine wpList_load_row (o := ⟨some 60, _, _, _, _, _⟩) rfl 34 _ rfl (g6) rfl 34 #[.slice X8 k8 x8, .int .i64 en] (0, 0) _ (HX.out).raw11 Try.underlying34 rfl (by kernel_rfl) ?_))
        refine (olc_may t a el en X8 k8 x8 u3 (HT.out _ (HBA.out _ HB.out)) HLT.out HCJ.out HK.out.1 HK.out.2.1 (by have := HKN.out; omega)).mono ?_
        rw [HMN.out]
        rintro e_ wz ⟨rfl, hbz⟩
        have HX2 := Lib.hid (HX.out.under hbz HX.out.lt)
        have HK2 := Lib.hid (HK.out.under hbz)
        have HB2 := Lib.hid (HB.out.trans (hbz.mono HB.out.size))
        clear hbz HX HK HB
        go_wp2
        go_roundg (k1 - 1)
        case measure => have := HIN.out; omega
        case rel =>
          exact ⟨i + 1, X8, k8, x8, el, en, by have := HIN.out; omega, by have := HIN.out; omega, by rw [IntWalk.wrap64_in _ (by have h1_ := HIN.out; have h2_ := HNB.out; omega)]; go_num, Lib.hid (by rw [HST2.out]), HMN, HX2, HK2, HB2⟩
    | true =>
      rw [if_pos rfl] at HST
      obtain ⟨E, hE⟩ : ∃ E, freeE t ⟨yl, yn⟩ ono = E := ⟨_, rfl⟩
      have HE := Lib.hid hE
      rw [hE] at HST
      clear hE
      obtain ⟨⟨el, en⟩, ee⟩ := E
      dsimp only at HST
      go_upto_region 6 with fail
      go_cut [8, 9] (fun s8 s9 wx => s9 = .int .i64 ee ∧ ∃ g8 X8 k8 x8, s8 = .pointer (some ⟨g8, 0, none⟩) ∧ Has wx g8 34 #[.slice X8 k8 x8, .int .i64 en] ∧ LkT wx X8 k8 x8 el ∧ Has wx g6 34 #[.slice X k x, .int .i64 yn] ∧ LkT wx X k x yl ∧ Below wa.heap.size wa wx)
      case first =>
        refine wp_region_held_drew (S := (fun W_ => (Has W_ (w.heap.size) 27 (tpC t a)) ∧ (Has W_ (g6) 34 #[.slice X k x, .int .i64 yn]) ∧ (LkT W_ X k x (yl)) ∧ (Below wa.heap.size wa W_))) (by kernel_rfl) ?_ (fun hHeld => ?_)
        · exact ⟨(H0.out _ HB.out).draw, HX.out.draw, HK.out.under (below_dr11 (Below.refl _ _)), below_dr11 HB.out⟩
        refine wpAnyH_take (i := 0) (oi := ⟨some 26, _, _, _, _, _⟩) (v := .agg (tpC t a)) rfl (by kernel_rfl) (by kernel_rfl) (by kernel_rfl) (fun _ _ _ h => h) (yields_load_row11 27 _ rfl (w.heap.size) rfl 27 (tpC t a) _ (fun _ ⟨h_, _, _, _⟩ => h_) Try.underlying27 rfl (by kernel_rfl) (by rfl)) (by assumption) ?_
        simp only [Act.put, List.setIfInBounds_toArray, List.set_cons_zero, List.set_cons_succ]
        refine wpAnyH_take (i := 1) (oi := ⟨some 27, _, _, _, _, _⟩) (v := .agg #[.slice X k x, .int .i64 yn]) rfl (by kernel_rfl) (by kernel_rfl) (by kernel_rfl) (fun _ _ _ h => h) (yields_load_row11 34 _ rfl (g6) rfl 34 #[.slice X k x, .int .i64 yn] _ (fun _ ⟨_, h_, _, _⟩ => h_) Try.underlying34 rfl (by kernel_rfl) (by rfl)) (by assumption) ?_
        simp only [Act.put, List.setIfInBounds_toArray, List.set_cons_zero, List.set_cons_succ]
        refine wpAnyH_take (i := 2) (oi := ⟨some 28, _, _, _, _, _⟩) (v := ?_) rfl (by kernel_rfl) (by kernel_rfl) (by kernel_rfl) (fun _ _ _ h => h) (Or.inl ⟨by rfl, ?_⟩) (by assumption) ?_
        rotate_left
        · intro w_ hSw; (try dsimp only at hSw); go_simp <;> with_reducible rfl
        simp only [Act.put, List.setIfInBounds_toArray, List.set_cons_zero, List.set_cons_succ]
        refine wpAnyH_take (i := 3) (oi := ⟨some 29, _, _, _, _, _⟩) (v := ?_) rfl (by kernel_rfl) (by kernel_rfl) (by kernel_rfl) (fun _ _ _ h => h) (Or.inl ⟨by rfl, ?_⟩) (by assumption) ?_
        rotate_left
        · intro w_ hSw; (try dsimp only at hSw); go_simp <;> with_reducible rfl
        simp only [Act.put, List.setIfInBounds_toArray, List.set_cons_zero, List.set_cons_succ]
        refine wpAnyH_take (i := 4) (oi := ⟨some 30, _, _, _, _, _⟩) (v := ?_) rfl (by kernel_rfl) (by kernel_rfl) (by kernel_rfl) (fun _ _ _ h => h) (Or.inl ⟨by rfl, ?_⟩) (by assumption) ?_
        rotate_left
        · intro w_ hSw; (try dsimp only at hSw); go_simp <;> with_reducible rfl
        simp only [Act.put, List.setIfInBounds_toArray, List.set_cons_zero, List.set_cons_succ]
        refine wpAnyH_take (i := 5) (oi := ⟨some 31, _, _, _, _, _⟩) (v := ?_) rfl (by kernel_rfl) (by kernel_rfl) (by kernel_rfl) (fun _ _ _ h => h) (Or.inl ⟨by rfl, ?_⟩) (by assumption) ?_
        rotate_left
        · intro w_ hSw; (try dsimp only at hSw); go_simp <;> with_reducible rfl
        simp only [Act.put, List.setIfInBounds_toArray, List.set_cons_zero, List.set_cons_succ]
        refine wpAnyH_take (i := 6) (oi := ⟨some 32, _, _, _, _, _⟩) (v := ?_) rfl (by kernel_rfl) (by kernel_rfl) (by kernel_rfl) (fun _ _ _ h => h) (Or.inl ⟨by rfl, ?_⟩) (by assumption) ?_
        rotate_left
        · intro w_ hSw; (try dsimp only at hSw); obtain ⟨s0, s1, s2, s3⟩ := hSw; (have q_ := (HC.out w_ (HBA.out _ s3)).2.2.2); go_simp <;> with_reducible rfl
        simp only [Act.put, List.setIfInBounds_toArray, List.set_cons_zero, List.set_cons_succ]
        refine wpAnyH_ready (rs := [7, 11]) (by kernel_rfl) (by simp) ?_
        refine AllReadyH.cons (o := ⟨some 33, _, _, _, _, _⟩) rfl (fun K hK => ?_) ?_
        · go_simp
          obtain ⟨s0, s1, s2, s3⟩ := hHeld
          refine (olc_free t a yl yn X k x _ ono (HT.out _ (HBA.out _ s3)) HLT.out HCJ.out s2.1 s2.2.1 (by have := HKL.out; omega)).mono ?_
          rw [HE.out]
          rintro e_ q1 ⟨X8, k8, x8, rfl, hl_, hb_⟩
          dsimp only at hl_ ⊢
          have HN := Lib.hid (hl_)
          go_wp2_with fail
          refine hK.out _ _ ?_ (fun hHeld => ?_)
          · exact ⟨s0.under hb_ s0.lt, s1.under hb_ s1.lt, s2.under hb_, s3.trans (hb_.mono s3.size)⟩
          clear hK K s0 s1 s2 s3
          try simp only [Act.put, List.setIfInBounds_toArray, List.set_cons_zero, List.set_cons_succ]
          refine wpAnyH_take (i := 8) (oi := ⟨some 25, _, _, _, _, _⟩) (v := ?_) rfl (by kernel_rfl) (by kernel_rfl) (by kernel_rfl) (fun _ _ _ h => h) (Or.inl ⟨by rfl, ?_⟩) (by assumption) ?_
          rotate_left
          · intro w_ hSw; (try dsimp only at hSw); go_simp <;> with_reducible rfl
          simp only [Act.put, List.setIfInBounds_toArray, List.set_cons_zero, List.set_cons_succ]
          refine wpAnyH_take (i := 9) (oi := ⟨some 34, _, _, _, _, _⟩) (v := ?_) rfl (by kernel_rfl) (by kernel_rfl) (by kernel_rfl) (fun _ _ _ h => h) (Or.inl ⟨by rfl, ?_⟩) (by assumption) ?_
          rotate_left
          · intro w_ hSw; (try dsimp only at hSw); go_simp <;> with_reducible rfl
          simp only [Act.put, List.setIfInBounds_toArray, List.set_cons_zero, List.set_cons_succ]
          refine wpAnyH_take (i := 10) (oi := ⟨some 35, _, _, _, _, _⟩) (v := ?_) rfl (by kernel_rfl) (by kernel_rfl) (by kernel_rfl) (fun _ _ _ h => h) (Or.inl ⟨by rfl, ?_⟩) (by assumption) ?_
          rotate_left
          · intro w_ hSw; (try dsimp only at hSw); go_simp <;> with_reducible rfl
          simp only [Act.put, List.setIfInBounds_toArray, List.set_cons_zero, List.set_cons_succ]
          refine wpAnyH_ready (rs := [11]) (by kernel_rfl) (by simp) ?_
          refine AllReadyH.cons (o := ⟨some 8, _, _, _, _, _⟩) rfl (fun K hK => ?_) ?_
          · go_simp
            obtain ⟨s0, s1, s2, s3⟩ := hHeld
            obtain ⟨g8, hg8⟩ : ∃ g8, q1.heap.size = g8 := ⟨_, rfl⟩
            have p0_g8 : w.heap.size < g8 := by rw [← hg8]; exact s0.lt
            have p1_g8 : g6 < g8 := by rw [← hg8]; exact s1.lt
            have p3_g8 : wa.heap.size ≤ g8 := by rw [← hg8]; exact s3.size
            rw [hg8]
            refine hK.out _ _ ?_ (fun hHeld => ?_)
            · exact ⟨s0.beside _, s1.beside _, s2.under ((Below.refl _ _).alloc (Nat.le_refl _) _), below_al11 s3 _⟩
            have HN := Lib.hid (HN.out.under ((Below.refl _ _).alloc (Nat.le_refl _) (.cells #[.slice none 0 0, .int .i64 0] 34)))
            refine wpAnyH_more11 (T := (fun W_ => (Has W_ (w.heap.size) 27 (tpC t a)) ∧ (Has W_ (g6) 34 #[.slice X k x, .int .i64 yn]) ∧ (LkT W_ X k x (yl)) ∧ (Below wa.heap.size wa W_) ∧ (∃ o_ : Array Value, Has W_ (g8) 34 o_ ∧ o_.size = 2))) (fun _ ⟨s0, s1, s2, s3, s4⟩ => ⟨s0, s1, s2, s3⟩) ?_
            have hHeld2 : (fun W_ => (Has W_ (w.heap.size) 27 (tpC t a)) ∧ (Has W_ (g6) 34 #[.slice X k x, .int .i64 yn]) ∧ (LkT W_ X k x (yl)) ∧ (Below wa.heap.size wa W_) ∧ (∃ o_ : Array Value, Has W_ (g8) 34 o_ ∧ o_.size = 2)) _ := ⟨s0.beside _, s1.beside _, s2.under ((Below.refl _ _).alloc (Nat.le_refl _) _), below_al11 s3 _, ⟨#[.slice none 0 0, .int .i64 0], (by rw [← hg8]; exact Has.made _ _ _), rfl⟩⟩
            clear hHeld
            have hHeld := hHeld2
            clear hHeld2
            clear hK K hg8 s0 s1 s2 s3
            try simp only [Act.put, List.setIfInBounds_toArray, List.set_cons_zero, List.set_cons_succ]
            refine wpAnyH_ready (rs := [12]) (by kernel_rfl) (by simp) ?_
            refine AllReadyH.cons (o := ⟨none, _, _, _, _, _⟩) rfl (fun K hK => ?_) ?_
            · rw [if_pos (by rfl)]
              obtain ⟨s0, s1, s2, s3, s4⟩ := hHeld
              obtain ⟨o_, h_, e_⟩ := s4
              refine wp_store_row 34 _ _ rfl (g8) #[.slice X8 k8 x8, .int .i64 en] (by rfl) (by rfl) 34 o_ h_.raw11 (by kernel_rfl) e_ (by kernel_rfl) ?_
              have HN := Lib.hid (HN.out.row h_ (by decide) #[.slice X8 k8 x8, .int .i64 en])
              refine hK.out _ _ ?_ (fun hHeld => ?_)
              · exact ⟨has_rowo11 s0 (by omega) _, has_rowo11 s1 (by omega) _, s2.row h_ (by decide) _, below_row s3 (by omega) _, ⟨_, has_row11 h_ _, rfl⟩⟩
              refine wpAnyH_more11 (T := (fun W_ => (Has W_ (w.heap.size) 27 (tpC t a)) ∧ (Has W_ (g6) 34 #[.slice X k x, .int .i64 yn]) ∧ (LkT W_ X k x (yl)) ∧ (Below wa.heap.size wa W_) ∧ (∃ o_ : Array Value, Has W_ (g8) 34 o_ ∧ o_.size = 2) ∧ (Has W_ (g8) 34 #[.slice X8 k8 x8, .int .i64 en]))) (fun _ ⟨s0, s1, s2, s3, s4, s5⟩ => ⟨s0, s1, s2, s3, s4⟩) ?_
              have hHeld2 : (fun W_ => (Has W_ (w.heap.size) 27 (tpC t a)) ∧ (Has W_ (g6) 34 #[.slice X k x, .int .i64 yn]) ∧ (LkT W_ X k x (yl)) ∧ (Below wa.heap.size wa W_) ∧ (∃ o_ : Array Value, Has W_ (g8) 34 o_ ∧ o_.size = 2) ∧ (Has W_ (g8) 34 #[.slice X8 k8 x8, .int .i64 en])) _ := ⟨has_rowo11 s0 (by omega) _, has_rowo11 s1 (by omega) _, s2.row h_ (by decide) _, below_row s3 (by omega) _, ⟨_, has_row11 h_ _, rfl⟩, has_row11 h_ _⟩
              clear hHeld
              have hHeld := hHeld2
              clear hHeld2
              clear hK K h_ e_ s0 s1 s2 s3
              try simp only [Act.put]
              refine wpAnyH_take (i := 13) (oi := ⟨some 9, _, _, _, _, _⟩) (v := ?_) rfl (by kernel_rfl) (by kernel_rfl) (by kernel_rfl) (fun _ _ _ h => h) (Or.inl ⟨by rfl, ?_⟩) (by assumption) ?_
              rotate_left
              · intro w_ hSw; (try dsimp only at hSw); go_simp <;> with_reducible rfl
              simp only [Act.put, List.setIfInBounds_toArray, List.set_cons_zero, List.set_cons_succ]
              refine wpAnyH_done (by kernel_rfl) ?_ _
              go_wp2_with fail
              go_meet
              exact ⟨rfl, _, _, _, _, rfl, hHeld.2.2.2.2.2, HN.out, hHeld.2.1, hHeld.2.2.1, hHeld.2.2.2.1⟩
            exact AllReadyH.nil
          exact AllReadyH.nil
        refine AllReadyH.cons (o := ⟨some 8, _, _, _, _, _⟩) rfl (fun K hK => ?_) ?_
        · go_simp
          obtain ⟨s0, s1, s2, s3⟩ := hHeld
          obtain ⟨g8, hg8⟩ : ∃ g8, wv.heap.size = g8 := ⟨_, rfl⟩
          have p0_g8 : w.heap.size < g8 := by rw [← hg8]; exact s0.lt
          have p1_g8 : g6 < g8 := by rw [← hg8]; exact s1.lt
          have p3_g8 : wa.heap.size ≤ g8 := by rw [← hg8]; exact s3.size
          rw [hg8]
          refine hK.out _ _ ?_ (fun hHeld => ?_)
          · exact ⟨s0.beside _, s1.beside _, s2.under ((Below.refl _ _).alloc (Nat.le_refl _) _), below_al11 s3 _⟩
          refine wpAnyH_more11 (T := (fun W_ => (Has W_ (w.heap.size) 27 (tpC t a)) ∧ (Has W_ (g6) 34 #[.slice X k x, .int .i64 yn]) ∧ (LkT W_ X k x (yl)) ∧ (Below wa.heap.size wa W_) ∧ (∃ o_ : Array Value, Has W_ (g8) 34 o_ ∧ o_.size = 2))) (fun _ ⟨s0, s1, s2, s3, s4⟩ => ⟨s0, s1, s2, s3⟩) ?_
          have hHeld2 : (fun W_ => (Has W_ (w.heap.size) 27 (tpC t a)) ∧ (Has W_ (g6) 34 #[.slice X k x, .int .i64 yn]) ∧ (LkT W_ X k x (yl)) ∧ (Below wa.heap.size wa W_) ∧ (∃ o_ : Array Value, Has W_ (g8) 34 o_ ∧ o_.size = 2)) _ := ⟨s0.beside _, s1.beside _, s2.under ((Below.refl _ _).alloc (Nat.le_refl _) _), below_al11 s3 _, ⟨#[.slice none 0 0, .int .i64 0], (by rw [← hg8]; exact Has.made _ _ _), rfl⟩⟩
          clear hHeld
          have hHeld := hHeld2
          clear hHeld2
          clear hK K hg8 s0 s1 s2 s3
          try simp only [Act.put, List.setIfInBounds_toArray, List.set_cons_zero, List.set_cons_succ]
          refine wpAnyH_ready (rs := [7]) (by kernel_rfl) (by simp) ?_
          refine AllReadyH.cons (o := ⟨some 33, _, _, _, _, _⟩) rfl (fun K hK => ?_) ?_
          · go_simp
            obtain ⟨s0, s1, s2, s3, s4⟩ := hHeld
            refine (olc_free t a yl yn X k x _ ono (HT.out _ (HBA.out _ s3)) HLT.out HCJ.out s2.1 s2.2.1 (by have := HKL.out; omega)).mono ?_
            rw [HE.out]
            rintro e_ q1 ⟨X8, k8, x8, rfl, hl_, hb_⟩
            dsimp only at hl_ ⊢
            have HN := Lib.hid (hl_)
            go_wp2_with fail
            refine hK.out _ _ ?_ (fun hHeld => ?_)
            · exact ⟨s0.under hb_ s0.lt, s1.under hb_ s1.lt, s2.under hb_, s3.trans (hb_.mono s3.size), (let ⟨o_, h_, e_⟩ := s4; ⟨o_, h_.under hb_ h_.lt, e_⟩)⟩
            clear hK K s0 s1 s2 s3 s4
            try simp only [Act.put, List.setIfInBounds_toArray, List.set_cons_zero, List.set_cons_succ]
            refine wpAnyH_take (i := 8) (oi := ⟨some 25, _, _, _, _, _⟩) (v := ?_) rfl (by kernel_rfl) (by kernel_rfl) (by kernel_rfl) (fun _ _ _ h => h) (Or.inl ⟨by rfl, ?_⟩) (by assumption) ?_
            rotate_left
            · intro w_ hSw; (try dsimp only at hSw); go_simp <;> with_reducible rfl
            simp only [Act.put, List.setIfInBounds_toArray, List.set_cons_zero, List.set_cons_succ]
            refine wpAnyH_take (i := 9) (oi := ⟨some 34, _, _, _, _, _⟩) (v := ?_) rfl (by kernel_rfl) (by kernel_rfl) (by kernel_rfl) (fun _ _ _ h => h) (Or.inl ⟨by rfl, ?_⟩) (by assumption) ?_
            rotate_left
            · intro w_ hSw; (try dsimp only at hSw); go_simp <;> with_reducible rfl
            simp only [Act.put, List.setIfInBounds_toArray, List.set_cons_zero, List.set_cons_succ]
            refine wpAnyH_take (i := 10) (oi := ⟨some 35, _, _, _, _, _⟩) (v := ?_) rfl (by kernel_rfl) (by kernel_rfl) (by kernel_rfl) (fun _ _ _ h => h) (Or.inl ⟨by rfl, ?_⟩) (by assumption) ?_
            rotate_left
            · intro w_ hSw; (try dsimp only at hSw); go_simp <;> with_reducible rfl
            simp only [Act.put, List.setIfInBounds_toArray, List.set_cons_zero, List.set_cons_succ]
            refine wpAnyH_ready (rs := [12]) (by kernel_rfl) (by simp) ?_
            refine AllReadyH.cons (o := ⟨none, _, _, _, _, _⟩) rfl (fun K hK => ?_) ?_
            · rw [if_pos (by rfl)]
              obtain ⟨s0, s1, s2, s3, s4⟩ := hHeld
              obtain ⟨o_, h_, e_⟩ := s4
              refine wp_store_row 34 _ _ rfl (g8) #[.slice X8 k8 x8, .int .i64 en] (by rfl) (by rfl) 34 o_ h_.raw11 (by kernel_rfl) e_ (by kernel_rfl) ?_
              have HN := Lib.hid (HN.out.row h_ (by decide) #[.slice X8 k8 x8, .int .i64 en])
              refine hK.out _ _ ?_ (fun hHeld => ?_)
              · exact ⟨has_rowo11 s0 (by omega) _, has_rowo11 s1 (by omega) _, s2.row h_ (by decide) _, below_row s3 (by omega) _, ⟨_, has_row11 h_ _, rfl⟩⟩
              refine wpAnyH_more11 (T := (fun W_ => (Has W_ (w.heap.size) 27 (tpC t a)) ∧ (Has W_ (g6) 34 #[.slice X k x, .int .i64 yn]) ∧ (LkT W_ X k x (yl)) ∧ (Below wa.heap.size wa W_) ∧ (∃ o_ : Array Value, Has W_ (g8) 34 o_ ∧ o_.size = 2) ∧ (Has W_ (g8) 34 #[.slice X8 k8 x8, .int .i64 en]))) (fun _ ⟨s0, s1, s2, s3, s4, s5⟩ => ⟨s0, s1, s2, s3, s4⟩) ?_
              have hHeld2 : (fun W_ => (Has W_ (w.heap.size) 27 (tpC t a)) ∧ (Has W_ (g6) 34 #[.slice X k x, .int .i64 yn]) ∧ (LkT W_ X k x (yl)) ∧ (Below wa.heap.size wa W_) ∧ (∃ o_ : Array Value, Has W_ (g8) 34 o_ ∧ o_.size = 2) ∧ (Has W_ (g8) 34 #[.slice X8 k8 x8, .int .i64 en])) _ := ⟨has_rowo11 s0 (by omega) _, has_rowo11 s1 (by omega) _, s2.row h_ (by decide) _, below_row s3 (by omega) _, ⟨_, has_row11 h_ _, rfl⟩, has_row11 h_ _⟩
              clear hHeld
              have hHeld := hHeld2
              clear hHeld2
              clear hK K h_ e_ s0 s1 s2 s3
              try simp only [Act.put]
              refine wpAnyH_take (i := 13) (oi := ⟨some 9, _, _, _, _, _⟩) (v := ?_) rfl (by kernel_rfl) (by kernel_rfl) (by kernel_rfl) (fun _ _ _ h => h) (Or.inl ⟨by rfl, ?_⟩) (by assumption) ?_
              rotate_left
              · intro w_ hSw; (try dsimp only at hSw); go_simp <;> with_reducible rfl
              simp only [Act.put, List.setIfInBounds_toArray, List.set_cons_zero, List.set_cons_succ]
              refine wpAnyH_done (by kernel_rfl) ?_ _
              go_wp2_with fail
              go_meet
              exact ⟨rfl, _, _, _, _, rfl, hHeld.2.2.2.2.2, HN.out, hHeld.2.1, hHeld.2.2.1, hHeld.2.2.2.1⟩
            exact AllReadyH.nil
          exact AllReadyH.nil
        exact AllReadyH.nil
      case rest =>
        obtain ⟨rfl, g8, X8, k8, x8, rfl, h8_, hl8_, hx_, hk_, hb_⟩ := hcut
        have H8 := Lib.hid h8_; have HL8 := Lib.hid hl8_; have HX := Lib.hid hx_; have HK := Lib.hid hk_; have HB := Lib.hid hb_
        clear h8_ hl8_ hx_ hk_ hb_
        obtain ⟨u2, hu2⟩ : ∃ u2, u2 = wc := ⟨_, rfl⟩
        subst hu2
        clear d0
        by_cases z0 : ee = 0
        rotate_left
        · have q0 : (ee == 0) = false := by simp [z0]
          have HST2 := Lib.hid (HST.out.trans (if_neg z0))
          clear H8 HL8 HST HE
          have HMN : Hid (mayB t ⟨yl, yn⟩ = true) := Lib.hid (HMY.out)
          have HKN : Hid (k ≤ 24) := Lib.hid (by have h1_ := HK.out.1.1; have h2_ := (may_iff.1 HMN.out).few; dsimp only at h2_; omega)
          go_upto_region 12 with fail
          go_wp2_with (first | (with_reducible refine wpList_load_row (o := ⟨some 59, _, _, _, _, _⟩) rfl 27 _ rfl (w.heap.size) rfl 27 (tpC t a) (0, 0) _ ((H0.out u2 HB.out)).raw11 Try.underlying27 rfl (by kernel_rfl) ?_) | (with_reducible refine wpList_load_row (o := ⟨some 60, _, _, _, _, _⟩) rfl 34 _ rfl (g6) rfl 34 #[.slice X k x, .int .i64 yn] (0, 0) _ (HX.out).raw11 Try.underlying34 rfl (by kernel_rfl) ?_))
          refine (olc_may t a yl yn X k x u2 (HT.out _ (HBA.out _ HB.out)) HLT.out HCJ.out HK.out.1 HK.out.2.1 (by have := HKN.out; omega)).mono ?_
          rw [HMN.out]
          rintro e_ wz ⟨rfl, hbz⟩
          have HX2 := Lib.hid (HX.out.under hbz HX.out.lt)
          have HK2 := Lib.hid (HK.out.under hbz)
          have HB2 := Lib.hid (HB.out.trans (hbz.mono HB.out.size))
          clear hbz HX HK HB
          go_wp2
          go_roundg (k1 - 1)
          case measure => have := HIN.out; omega
          case rel =>
            exact ⟨i + 1, X, k, x, yl, yn, by have := HIN.out; omega, by have := HIN.out; omega, by rw [IntWalk.wrap64_in _ (by have h1_ := HIN.out; have h2_ := HNB.out; omega)]; go_num, Lib.hid (by rw [HST2.out]), HMN, HX2, HK2, HB2⟩
        subst z0
        have HST2 := Lib.hid (HST.out.trans (if_pos rfl))
        have HMZ := Lib.hid (show mayB t ⟨el, en⟩ = true from by have h_ := free_may (t := t) (x := ⟨yl, yn⟩) (no := ono) (by rw [HE.out]); have h2_ := h_.1.symm.trans HE.out; simp only [Prod.mk.injEq] at h2_; rw [← h2_.1]; exact h_.2.1)
        go_upto_region 8 with fail
        obtain ⟨u3, hu3⟩ : ∃ u3, u2.setRow g6 #[.slice X8 k8 x8, .int .i64 en] = u3 := ⟨_, rfl⟩
        have HU3 := Lib.hid hu3
        have HXN := Lib.hid (show Has u3 g6 34 #[.slice X8 k8 x8, .int .i64 en] from by rw [← hu3]; exact has_row11 HX.out _)
        have HKN_ := Lib.hid (show LkT u3 X8 k8 x8 el from by rw [← hu3]; exact LkT.row HL8.out HX.out (by decide) _)
        have HBN := Lib.hid (show Below wa.heap.size wa u3 from by rw [← hu3]; exact below_row (g := g6) HB.out HG6.out _)
        clear hu3 HST HE
        go_upto_region 12 with (first | (with_reducible refine wpList_load_row (o := ⟨some 38, _, _, _, _, _⟩) rfl 34 _ rfl (g8) rfl 34 #[.slice X8 k8 x8, .int .i64 en] (0, 0) _ (H8.out).raw11 Try.underlying34 rfl (by kernel_rfl) ?_) | (with_reducible refine wpList_store_rowTo (o := ⟨none, _, _, _, _, _⟩) rfl 34 _ _ rfl rfl (g6) #[.slice X8 k8 x8, .int .i64 en] rfl rfl 34 _ (HX.out).raw11 (by kernel_rfl) (by kernel_rfl) (by kernel_rfl) ?_))
        rw [HU3.out]
        clear HU3 H8 HL8 HX HK HB
        have HX := HXN; have HK := HKN_; have HB := HBN
        clear HXN HKN_ HBN
        have HMN : Hid (mayB t ⟨el, en⟩ = true) := Lib.hid (HMZ.out)
        have HKN : Hid (k8 ≤ 24) := Lib.hid (by have h1_ := HK.out.1.1; have h2_ := (may_iff.1 HMN.out).few; dsimp only at h2_; omega)
        skip
        go_wp2_with (first | (with_reducible refine wpList_load_row (o := ⟨some 59, _, _, _, _, _⟩) rfl 27 _ rfl (w.heap.size) rfl 27 (tpC t a) (0, 0) _ ((H0.out u3 HB.out)).raw11 Try.underlying27 rfl (by kernel_rfl) ?_) | (with_reducible refine wpList_load_row (o := ⟨some 60, _, _, _, _, _⟩) rfl 34 _ rfl (g6) rfl 34 #[.slice X8 k8 x8, .int .i64 en] (0, 0) _ (HX.out).raw11 Try.underlying34 rfl (by kernel_rfl) ?_))
        refine (olc_may t a el en X8 k8 x8 u3 (HT.out _ (HBA.out _ HB.out)) HLT.out HCJ.out HK.out.1 HK.out.2.1 (by have := HKN.out; omega)).mono ?_
        rw [HMN.out]
        rintro e_ wz ⟨rfl, hbz⟩
        have HX2 := Lib.hid (HX.out.under hbz HX.out.lt)
        have HK2 := Lib.hid (HK.out.under hbz)
        have HB2 := Lib.hid (HB.out.trans (hbz.mono HB.out.size))
        clear hbz HX HK HB
        go_wp2
        go_roundg (k1 - 1)
        case measure => have := HIN.out; omega
        case rel =>
          exact ⟨i + 1, X8, k8, x8, el, en, by have := HIN.out; omega, by have := HIN.out; omega, by rw [IntWalk.wrap64_in _ (by have h1_ := HIN.out; have h2_ := HNB.out; omega)]; go_num, Lib.hid (by rw [HST2.out]), HMN, HX2, HK2, HB2⟩

end Go.Proofs.Yteioefgckigbcaa
