/-
  linesideref14, by contract: Off.
-/
import Derived.Test.YtfchmjldhefmkaaPlRefD

import Derived.BigQuiet

import Derived.IntWalk

namespace Go.Proofs.Ytfchmjldhefmkaa

open Go.RowKit

open Go.Great

theorem off_bad14 {t : Tp3} {path : List St3} {m : Int} (h : checkE t ≠ 0) : offE t path m = (zeroP, 1) := if_neg h
theorem off_len14 {t : Tp3} {path : List St3} {m : Int} (h : checkE t = 0) (hl : lenE t path ≠ 0) : offE t path m = (zeroP, lenE t path) := by
  unfold offE
  rw [if_pos h, if_neg hl]
theorem off_out14 {t : Tp3} {path : List St3} {m : Int} (h : checkE t = 0) (hl : lenE t path = 0) (hm : ¬ (0 ≤ m ∧ m ≤ sumT t path)) : offE t path m = (zeroP, 1) := by
  unfold offE
  rw [if_pos h, if_pos hl, if_neg hm]
theorem off_in14 {t : Tp3} {path : List St3} {m : Int} (h : checkE t = 0) (hl : lenE t path = 0) (hm : 0 ≤ m ∧ m ≤ sumT t path) : offE t path m = (offGo t path m, 0) := by
  unfold offE
  rw [if_pos h, if_pos hl, if_pos hm]
theorem drop_cons14 {path : List St3} {i : Nat} {x : St3} (hx : path[i]? = some x) : path.drop i = x :: path.drop (i + 1) := by
  obtain ⟨h1, e⟩ := List.getElem?_eq_some_iff.1 hx
  rw [List.drop_eq_getElem_cons h1, e]

set_option maxRecDepth 100000 in
set_option maxHeartbeats 8000000 in
theorem roff_any (t : Tp3) (a : TpA) (path : List St3) (A : Option Addr) (n c : Nat) (m : Int) (w : World) (ht : TopR w t a) (hlt : lightT t = true) (hcj : t.joints.length ≤ a.cj) (hp : SlO stC 2 w A n c path) (hn : n ≤ 1048576) :
    Calls Try.prog 21 #[.agg (tpC t a), .slice A n c, .int .i64 m] w fun e w' => e = .returned (.tuple #[.agg (psA (offE t path m).1), .int .i64 (offE t path m).2]) ∧ Below w.heap.size w w' := by
  obtain ⟨rP, hrP⟩ : ∃ r, (offE t path m).1 = r := ⟨_, rfl⟩
  obtain ⟨rE, hrE⟩ : ∃ r, (offE t path m).2 = r := ⟨_, rfl⟩
  have HOE := Lib.hid (show offE t path m = (rP, rE) from Prod.ext hrP hrE)
  rw [hrP, hrE]
  clear hrP hrE
  have HLT := Lib.hid hlt
  have HNN := Lib.hid (light_nums13 hlt)
  have HCJ := Lib.hid hcj
  have HNL := Lib.hid hn
  have HL := Lib.hid hp.1
  obtain ⟨cE, hcE⟩ : ∃ e, checkE t = e := ⟨_, rfl⟩
  have HCE := Lib.hid hcE
  clear hlt hcj hn hcE
  obtain ⟨wa, hwa⟩ : ∃ wa, (w.alloc (.cells (tpC t a) 27)).alloc (.cells #[.int .i64 0, .int .i64 0, .bool false] 29) = wa := ⟨_, rfl⟩
  have hbwa : Below w.heap.size w wa := by rw [← hwa]; exact ((Below.refl _ _).alloc (Nat.le_refl _) _).alloc (by simp) _
  have h0 : Has wa (w.heap.size) 27 (tpC t a) := by rw [← hwa]; exact ((Has.made _ _ _).beside _)
  have h1 : Has wa (w.heap.size + 1) 29 #[.int .i64 0, .int .i64 0, .bool false] := by rw [← hwa]; exact (has_at11 (by simp))
  have HWA := Lib.hid hwa; have HBWA := Lib.hid hbwa
  have HT := Lib.hid (fun W (hW : Below w.heap.size w W) => ht.under hW)
  have HP := Lib.hid (fun W (hW : Below w.heap.size w W) => hp.under hW)
  have HG0 := Lib.hid h0
  have HG1 := Lib.hid h1
  clear hwa hbwa h0 h1 ht hp
  go_enter Try.func21, Try.ntmps21
  go_upto_region 1 with fail
  rw [HWA.out]
  clear HWA
  go_wp2_with (with_reducible refine wpList_load_row (o := ⟨some 12, _, _, _, _, _⟩) rfl 27 _ rfl (w.heap.size) rfl 27 (tpC t a) (0, 0) _ (HG0.out).raw11 Try.underlying27 rfl (by kernel_rfl) ?_)
  refine (rcheck_any t a wa (HT.out wa HBWA.out) HLT.out HCJ.out).mono ?_
  rw [HCE.out]
  rintro e w1 ⟨rfl, hb⟩
  have HB := HBWA
  clear HBWA
  have HB := Lib.hid (HB.out.trans (hb.mono HB.out.size))
  have HG0 := Lib.hid (HG0.out.under hb HG0.out.lt)
  have HG1 := Lib.hid (HG1.out.under hb HG1.out.lt)
  clear hb
  by_cases z0 : cE = 0
  rotate_left
  · have x1 : (cE != 0) = true := by simp [z0]
    have x2 : (cE == 0) = false := by simp [z0]
    have HZ0 := Lib.hid z0
    have HR := Lib.hid (has_row11 HG1.out #[.int .i64 0, .int .i64 0, .bool false])
    have HBF := Lib.hid (below_row (g := w.heap.size + 1) HB.out (by omega) #[.int .i64 0, .int .i64 0, .bool false])
    go_wp2_with (with_reducible refine wpList_store_rowTo (o := ⟨none, _, _, _, _, _⟩) rfl 29 _ _ rfl rfl (w.heap.size + 1) #[.int .i64 0, .int .i64 0, .bool false] rfl rfl 29 _ (HG1.out).raw11 (by kernel_rfl) (by kernel_rfl) (by kernel_rfl) ?_)
    refine bodyPost_ret (results_row_tmp11 rfl _ _ (w.heap.size + 1) 29 _ _ rfl HR.out Try.underlying29 rfl (by kernel_rfl)) rfl ?_
    obtain ⟨rfl, rfl⟩ := Prod.mk.inj (show (rP, rE) = (zeroP, 1) from HOE.out.symm.trans (off_bad14 (by rw [HCE.out]; exact HZ0.out)))
    exact ⟨rfl, HBF.out⟩
  subst z0
  have HED := Lib.hid (check_routes HCE.out).1
  go_upto_region 3 with fail
  go_wp2_with (with_reducible refine wpList_load_row (o := ⟨some 17, _, _, _, _, _⟩) rfl 27 _ rfl (w.heap.size) rfl 27 (tpC t a) (0, 0) _ (HG0.out).raw11 Try.underlying27 rfl (by kernel_rfl) ?_)
  refine (rlength_any t a path A n c w1 (HT.out w1 HB.out) (HP.out w1 HB.out) HNL.out HNN.out.2.1 HED.out).mono ?_
  rintro e w2 ⟨rfl, hb⟩
  have HB := Lib.hid (HB.out.trans (hb.mono HB.out.size))
  have HG0 := Lib.hid (HG0.out.under hb HG0.out.lt)
  have HG1 := Lib.hid (HG1.out.under hb HG1.out.lt)
  clear hb
  obtain ⟨lN, hlN⟩ : ∃ x, lenN t path = x := ⟨_, rfl⟩
  obtain ⟨lE, hlE⟩ : ∃ x, lenE t path = x := ⟨_, rfl⟩
  have HLE := Lib.hid hlE
  have HLN := Lib.hid hlN
  simp only [hlN, hlE]
  clear hlN hlE
  by_cases z0 : lE = 0
  rotate_left
  · have x1 : (lE != 0) = true := by simp [z0]
    have x2 : (lE == 0) = false := by simp [z0]
    have HZ0 := Lib.hid z0
    have HR := Lib.hid (has_row11 HG1.out #[.int .i64 0, .int .i64 0, .bool false])
    have HBF := Lib.hid (below_row (g := w.heap.size + 1) HB.out (by omega) #[.int .i64 0, .int .i64 0, .bool false])
    go_wp2_with (with_reducible refine wpList_store_rowTo (o := ⟨none, _, _, _, _, _⟩) rfl 29 _ _ rfl rfl (w.heap.size + 1) #[.int .i64 0, .int .i64 0, .bool false] rfl rfl 29 _ (HG1.out).raw11 (by kernel_rfl) (by kernel_rfl) (by kernel_rfl) ?_)
    refine bodyPost_ret (results_row_tmp11 rfl _ _ (w.heap.size + 1) 29 _ _ rfl HR.out Try.underlying29 rfl (by kernel_rfl)) rfl ?_
    obtain ⟨rfl, rfl⟩ := Prod.mk.inj (show (rP, rE) = (zeroP, lE) from HOE.out.symm.trans (by rw [off_len14 HCE.out (by rw [HLE.out]; exact HZ0.out), HLE.out]))
    exact ⟨rfl, HBF.out⟩
  subst z0
  have HSN := Lib.hid (show sumT t path = lN from by have h_ := HLN.out; unfold lenN at h_; rw [HLE.out, if_pos rfl] at h_; exact h_)
  clear HLN
  by_cases z1 : m < 0
  · skip
    have HR := Lib.hid (has_row11 HG1.out #[.int .i64 0, .int .i64 0, .bool false])
    have HBF := Lib.hid (below_row (g := w.heap.size + 1) HB.out (by omega) #[.int .i64 0, .int .i64 0, .bool false])
    go_wp2_with (with_reducible refine wpList_store_rowTo (o := ⟨none, _, _, _, _, _⟩) rfl 29 _ _ rfl rfl (w.heap.size + 1) #[.int .i64 0, .int .i64 0, .bool false] rfl rfl 29 _ (HG1.out).raw11 (by kernel_rfl) (by kernel_rfl) (by kernel_rfl) ?_)
    refine bodyPost_ret (results_row_tmp11 rfl _ _ (w.heap.size + 1) 29 _ _ rfl HR.out Try.underlying29 rfl (by kernel_rfl)) rfl ?_
    obtain ⟨rfl, rfl⟩ := Prod.mk.inj (show (rP, rE) = (zeroP, 1) from HOE.out.symm.trans (off_out14 HCE.out HLE.out (fun h_ => by have := h_.1; omega)))
    exact ⟨rfl, HBF.out⟩
  by_cases z2 : lN < m
  · skip
    have HR := Lib.hid (has_row11 HG1.out #[.int .i64 0, .int .i64 0, .bool false])
    have HBF := Lib.hid (below_row (g := w.heap.size + 1) HB.out (by omega) #[.int .i64 0, .int .i64 0, .bool false])
    go_wp2_with (with_reducible refine wpList_store_rowTo (o := ⟨none, _, _, _, _, _⟩) rfl 29 _ _ rfl rfl (w.heap.size + 1) #[.int .i64 0, .int .i64 0, .bool false] rfl rfl 29 _ (HG1.out).raw11 (by kernel_rfl) (by kernel_rfl) (by kernel_rfl) ?_)
    refine bodyPost_ret (results_row_tmp11 rfl _ _ (w.heap.size + 1) 29 _ _ rfl HR.out Try.underlying29 rfl (by kernel_rfl)) rfl ?_
    obtain ⟨rfl, rfl⟩ := Prod.mk.inj (show (rP, rE) = (zeroP, 1) from HOE.out.symm.trans (off_out14 HCE.out HLE.out (fun h_ => by have h2_ := h_.2; rw [HSN.out] at h2_; omega)))
    exact ⟨rfl, HBF.out⟩
  have HMM := Lib.hid (show 0 ≤ m ∧ m ≤ sumT t path from by rw [HSN.out]; omega)
  have HOI := Lib.hid (HOE.out.symm.trans (off_in14 HCE.out HLE.out HMM.out))
  have HLO := Lib.hid (len_ok HLE.out)
  have hn40 : 1 ≤ n ∧ n ≤ 40 := by have h0_ := HLO.out.1; have h1_ := HLO.out.2.1; have h2_ := HL.out; refine ⟨Nat.one_le_iff_ne_zero.2 fun e_ => h0_ (List.length_eq_zero_iff.1 (by omega)), by omega⟩
  clear HOE HCE HLE
  obtain ⟨wb, hwb⟩ : ∃ wb, wb = w2 := ⟨_, rfl⟩
  subst hwb
  go_upto_region 8 with fail
  clear z1 z2
  go_wp2
  go_loopg [2, 10] n (fun kk v2 v10 wl => ∃ (i : Nat) (mm : Int), i ≤ n ∧ n - i ≤ kk ∧ v10 = .int .i64 i ∧ v2 = .int .i64 mm ∧ Hid (0 ≤ mm ∧ mm ≤ sumT t (path.drop i) ∧ (i = 0 ∨ 1 ≤ mm)) ∧ Hid (offGo t path m = offGo t (path.drop i) mm) ∧ Hid (Below wb.heap.size wb wl))
  case atStart => exact ⟨0, m, by omega, by omega, rfl, rfl, Lib.hid ⟨HMM.out.1, HMM.out.2, .inl rfl⟩, Lib.hid rfl, Lib.hid (Below.refl _ _)⟩
  case round =>
    obtain ⟨i, mm, hi, hik, rfl, rfl, HMI, HGO, HBL⟩ := hrel
    by_cases hlt : i < n
    rotate_left
    · exfalso
      have h_ := HMI.out
      rw [List.drop_of_length_le (by rw [HL.out]; omega)] at h_
      have h2_ : sumT t [] = 0 := rfl
      omega
    have HBR := Lib.hid (HB.out.trans (HBL.out.mono HB.out.size))
    have HG0r := Lib.hid (HG0.out.under HBL.out HG0.out.lt)
    have HG1r := Lib.hid (HG1.out.under HBL.out HG1.out.lt)
    obtain ⟨x, hx⟩ : ∃ x, path[i]? = some x := ⟨_, List.getElem?_eq_getElem (by rw [HL.out]; omega)⟩
    have HX := Lib.hid hx
    obtain ⟨bk, off, rfl, -, -⟩ := (HP.out wr HBR.out).step hx
    have HCX := Lib.hid (fun W (hW : Below w.heap.size w W) => (show W.cell? ⟨bk, off + i * 2, none⟩ = some (.int .i64 x.edge) ∧ W.cell? ⟨bk, off + i * 2 + 1, none⟩ = some (.bool x.rev) from by obtain ⟨b_, o_, e_, h1_, h2_⟩ := (HP.out W hW).step hx; injection e_ with e_; injection e_ with e1_ e2_ _; subst e1_ e2_; exact ⟨h1_, h2_⟩))
    have hxe := HLO.out.2.2.1 x (List.mem_of_getElem? hx)
    have HXE := Lib.hid hxe
    have hxe2 := hxe
    unfold edgeB at hxe2
    simp only [Bool.and_eq_true, decide_eq_true_eq] at hxe2
    obtain ⟨ke, hke⟩ : ∃ k : Nat, x.edge = k := ⟨x.edge.toNat, by omega⟩
    have hkl : ke < t.edges.length := by omega
    obtain ⟨be, oe, hae, -⟩ := (HT.out wr HBR.out).e.edge hkl
    have HLA := Lib.hid (show lenAt t x = t.edges.getD ke 0 from by unfold lenAt; rw [hke]; rfl)
    obtain ⟨q, hq⟩ : ∃ q, t.edges.getD ke 0 = q := ⟨_, rfl⟩
    rw [hq] at HLA
    have HQ := Lib.hid (show 1 ≤ q ∧ q ≤ 1000000 from by rw [← HLA.out]; exact lenAt_ok HED.out hxe)
    have HCE := Lib.hid (fun W (hW : Below w.heap.size w W) => (show W.cell? ⟨be, oe + ke, none⟩ = some (.int .i64 q) from by obtain ⟨b_, o_, e_, h_⟩ := (HT.out W hW).e.edge hkl; rw [hae] at e_; injection e_ with e_; injection e_ with e1_ e2_ _; subst e1_ e2_; rw [hq] at h_; exact h_))
    have HAE := Lib.hid hae
    have HKE := Lib.hid hke
    have HKL := Lib.hid hkl
    have y0 : (0 : Int) ≤ i := by omega
    have y1 : (i : Int) < n := by omega
    have hlow := HG1r.out.lt
    clear hx hxe hxe2 hke hkl hae hq
    obtain ⟨w3, hw3⟩ : ∃ w3, w3 = wr := ⟨_, rfl⟩
    subst hw3
    obtain ⟨k1, hk1⟩ : ∃ k1, k1 = gk := ⟨_, rfl⟩
    subst hk1
    go_upto_region 11 with fail
    go_cut [11] (fun s11 wx => ∃ gx : Nat, s11 = .pointer (some ⟨gx, 0, none⟩) ∧ Hid (Has wx gx 29 (psA (beginP t x))) ∧ Hid (Below w3.heap.size w3 wx))
    case first =>
      refine wp_region_held_drew (S := (fun W_ => Has W_ (w.heap.size) 27 (tpC t a) ∧ Below w3.heap.size w3 W_)) (by kernel_rfl) ?_ (fun hHeld => ?_)
      · exact ⟨HG0r.out.draw, below_dr11 (Below.refl _ _)⟩
      refine wpAnyH_take (i := 0) (oi := ⟨some 40, _, _, _, _, _⟩) (v := .agg (tpC t a)) rfl (by kernel_rfl) (by kernel_rfl) (by kernel_rfl) (fun _ _ _ h => h) (yields_load_row11 27 _ rfl (w.heap.size) rfl 27 (tpC t a) _ (fun _ ⟨h_, _⟩ => h_) Try.underlying27 rfl (by kernel_rfl) (by rfl)) (by assumption) ?_
      simp only [Act.put, List.setIfInBounds_toArray, List.set_cons_zero, List.set_cons_succ]
      refine wpAnyH_take (i := 1) (oi := ⟨some 41, _, _, _, _, _⟩) (v := ?_) rfl (by kernel_rfl) (by kernel_rfl) (by kernel_rfl) (fun _ _ _ h => h) (Or.inl ⟨by rfl, ?_⟩) (by assumption) ?_
      rotate_left
      · intro w_ hSw; (try dsimp only at hSw); go_simp <;> with_reducible rfl
      simp only [Act.put, List.setIfInBounds_toArray, List.set_cons_zero, List.set_cons_succ]
      refine wpAnyH_take (i := 2) (oi := ⟨some 42, _, _, _, _, _⟩) (v := ?_) rfl (by kernel_rfl) (by kernel_rfl) (by kernel_rfl) (fun _ _ _ h => h) (Or.inl ⟨by rfl, ?_⟩) (by assumption) ?_
      rotate_left
      · intro w_ hSw; (try dsimp only at hSw); go_simp <;> with_reducible rfl
      simp only [Act.put, List.setIfInBounds_toArray, List.set_cons_zero, List.set_cons_succ]
      refine wpAnyH_take (i := 3) (oi := ⟨some 43, _, _, _, _, _⟩) (v := ?_) rfl (by kernel_rfl) (by kernel_rfl) (by kernel_rfl) (fun _ _ _ h => h) (Or.inl ⟨by rfl, ?_⟩) (by assumption) ?_
      rotate_left
      · intro w_ hSw; (try dsimp only at hSw); go_simp <;> with_reducible rfl
      simp only [Act.put, List.setIfInBounds_toArray, List.set_cons_zero, List.set_cons_succ]
      refine wpAnyH_take (i := 4) (oi := ⟨some 44, _, _, _, _, _⟩) (v := ?_) rfl (by kernel_rfl) (by kernel_rfl) (by kernel_rfl) (fun _ _ _ h => h) (Or.inl ⟨by rfl, ?_⟩) (by assumption) ?_
      rotate_left
      · intro w_ hSw; (try dsimp only at hSw); obtain ⟨cx0_, cx1_⟩ := HCX.out w_ (HBR.out.trans (hSw.2.mono HBR.out.size)); go_simp <;> with_reducible rfl
      simp only [Act.put, List.setIfInBounds_toArray, List.set_cons_zero, List.set_cons_succ]
      refine wpAnyH_ready (rs := [5, 6]) (by kernel_rfl) (by simp) ?_
      refine AllReadyH.cons (o := ⟨some 45, _, _, _, _, _⟩) rfl (fun K hK => ?_) ?_
      · go_simp
        obtain ⟨s0, s1⟩ := hHeld
        have hsz0_ := s1.size
        have hlo_ := HBR.out.trans (s1.mono HBR.out.size)
        refine (rbegin_any t a x _ (HT.out _ hlo_) HXE.out).mono ?_
        rintro e_ vs ⟨rfl, hbs⟩
        have hsz_ := hbs.size
        go_wp2_with fail
        refine hK.out _ _ ?_ (fun hHeld => ?_)
        · exact ⟨s0.under hbs s0.lt, s1.trans (hbs.mono s1.size)⟩
        clear hK K s0 s1
        try simp only [Act.put, List.setIfInBounds_toArray, List.set_cons_zero, List.set_cons_succ]
        refine wpAnyH_ready (rs := [6]) (by kernel_rfl) (by simp) ?_
        refine AllReadyH.cons (o := ⟨some 11, _, _, _, _, _⟩) rfl (fun K hK => ?_) ?_
        · go_simp
          obtain ⟨s0, s1⟩ := hHeld
          obtain ⟨gx, hgx⟩ : ∃ gx, vs.heap.size = gx := ⟨_, rfl⟩
          have hgl : w.heap.size < gx := by rw [← hgx]; exact s0.lt
          have hgl2 : w3.heap.size ≤ gx := by rw [← hgx]; exact s1.size
          have hgxle : vs.heap.size ≤ gx := Nat.le_of_eq hgx
          rw [hgx]
          refine hK.out _ _ ?_ (fun hHeld => ?_)
          · exact ⟨s0.beside _, below_al11 s1 _⟩
          refine wpAnyH_more11 (T := (fun W_ => Has W_ (w.heap.size) 27 (tpC t a) ∧ Below w3.heap.size w3 W_ ∧ (∃ o_ : Array Value, Has W_ (gx) 29 o_ ∧ o_.size = 3))) (fun _ ⟨s0, s1, s2⟩ => ⟨s0, s1⟩) ?_
          have hHeld2 : (fun W_ => Has W_ (w.heap.size) 27 (tpC t a) ∧ Below w3.heap.size w3 W_ ∧ (∃ o_ : Array Value, Has W_ (gx) 29 o_ ∧ o_.size = 3)) _ := ⟨s0.beside (.cells #[.int .i64 0, .int .i64 0, .bool false] 29), below_al11 s1 (.cells #[.int .i64 0, .int .i64 0, .bool false] 29), ⟨#[.int .i64 0, .int .i64 0, .bool false], (by rw [← hgx]; exact Has.made _ _ _), by kernel_rfl⟩⟩
          clear hHeld
          have hHeld := hHeld2
          clear hHeld2 hK K hgx s0 s1
          try simp only [Act.put, List.setIfInBounds_toArray, List.set_cons_zero, List.set_cons_succ]
          refine wpAnyH_ready (rs := [7]) (by kernel_rfl) (by simp) ?_
          refine AllReadyH.cons (o := ⟨none, _, _, _, _, _⟩) rfl (fun K hK => ?_) ?_
          · rw [if_pos (by rfl)]
            obtain ⟨s0, s1, s2⟩ := hHeld
            obtain ⟨o_, h_, e_⟩ := s2
            refine wp_store_row 29 _ _ rfl (gx) (psA (beginP t x)) (by rfl) (by rfl) 29 o_ h_.raw11 (by kernel_rfl) e_ (by kernel_rfl) ?_
            refine hK.out _ _ ?_ (fun hHeld => ?_)
            · exact ⟨has_rowo11 s0 (by omega) _, below_row s1 (by omega) _, ⟨_, has_row11 h_ (psA (beginP t x)), by kernel_rfl⟩⟩
            refine wpAnyH_more11 (T := (fun W_ => Has W_ (w.heap.size) 27 (tpC t a) ∧ Below w3.heap.size w3 W_ ∧ Has W_ (gx) 29 (psA (beginP t x)))) (fun _ ⟨s0, s1, s2⟩ => ⟨s0, s1, ⟨_, s2, by kernel_rfl⟩⟩) ?_
            have hHeld2 : (fun W_ => Has W_ (w.heap.size) 27 (tpC t a) ∧ Below w3.heap.size w3 W_ ∧ Has W_ (gx) 29 (psA (beginP t x))) _ := ⟨has_rowo11 s0 (by omega) _, below_row s1 (by omega) _, has_row11 h_ (psA (beginP t x))⟩
            clear hHeld
            have hHeld := hHeld2
            clear hHeld2 hK K h_ e_ s0 s1
            try simp only [Act.put]
            refine wpAnyH_done (by kernel_rfl) ?_ _
            go_wp2_with fail
            go_meet
            exact ⟨gx, rfl, Lib.hid hHeld.2.2, Lib.hid hHeld.2.1⟩
          exact AllReadyH.nil
        exact AllReadyH.nil
      refine AllReadyH.cons (o := ⟨some 11, _, _, _, _, _⟩) rfl (fun K hK => ?_) ?_
      · go_simp
        obtain ⟨s0, s1⟩ := hHeld
        obtain ⟨gx, hgx⟩ : ∃ gx, w3.heap.size = gx := ⟨_, rfl⟩
        have hgl : w.heap.size < gx := by rw [← hgx]; exact s0.lt
        have hgl2 : w3.heap.size ≤ gx := by rw [← hgx]; exact s1.size
        have hgxle : w3.heap.size ≤ gx := Nat.le_of_eq hgx
        rw [hgx]
        refine hK.out _ _ ?_ (fun hHeld => ?_)
        · exact ⟨s0.beside _, below_al11 s1 _⟩
        refine wpAnyH_more11 (T := (fun W_ => Has W_ (w.heap.size) 27 (tpC t a) ∧ Below w3.heap.size w3 W_ ∧ (∃ o_ : Array Value, Has W_ (gx) 29 o_ ∧ o_.size = 3))) (fun _ ⟨s0, s1, s2⟩ => ⟨s0, s1⟩) ?_
        have hHeld2 : (fun W_ => Has W_ (w.heap.size) 27 (tpC t a) ∧ Below w3.heap.size w3 W_ ∧ (∃ o_ : Array Value, Has W_ (gx) 29 o_ ∧ o_.size = 3)) _ := ⟨s0.beside (.cells #[.int .i64 0, .int .i64 0, .bool false] 29), below_al11 s1 (.cells #[.int .i64 0, .int .i64 0, .bool false] 29), ⟨#[.int .i64 0, .int .i64 0, .bool false], (by rw [← hgx]; exact Has.made _ _ _), by kernel_rfl⟩⟩
        clear hHeld
        have hHeld := hHeld2
        clear hHeld2 hK K hgx s0 s1
        try simp only [Act.put, List.setIfInBounds_toArray, List.set_cons_zero, List.set_cons_succ]
        refine wpAnyH_ready (rs := [5]) (by kernel_rfl) (by simp) ?_
        refine AllReadyH.cons (o := ⟨some 45, _, _, _, _, _⟩) rfl (fun K hK => ?_) ?_
        · go_simp
          obtain ⟨s0, s1, s2⟩ := hHeld
          have hsz0_ := s1.size
          have hgx_ := (let ⟨_, h_, _⟩ := s2; h_.lt)
          have hlo_ := HBR.out.trans (s1.mono HBR.out.size)
          refine (rbegin_any t a x _ (HT.out _ hlo_) HXE.out).mono ?_
          rintro e_ vs ⟨rfl, hbs⟩
          have hsz_ := hbs.size
          go_wp2_with fail
          refine hK.out _ _ ?_ (fun hHeld => ?_)
          · exact ⟨s0.under hbs s0.lt, s1.trans (hbs.mono s1.size), (let ⟨o_, h_, e_⟩ := s2; ⟨o_, h_.under hbs h_.lt, e_⟩)⟩
          clear hK K s0 s1 s2
          try simp only [Act.put, List.setIfInBounds_toArray, List.set_cons_zero, List.set_cons_succ]
          refine wpAnyH_ready (rs := [7]) (by kernel_rfl) (by simp) ?_
          refine AllReadyH.cons (o := ⟨none, _, _, _, _, _⟩) rfl (fun K hK => ?_) ?_
          · rw [if_pos (by rfl)]
            obtain ⟨s0, s1, s2⟩ := hHeld
            obtain ⟨o_, h_, e_⟩ := s2
            refine wp_store_row 29 _ _ rfl (gx) (psA (beginP t x)) (by rfl) (by rfl) 29 o_ h_.raw11 (by kernel_rfl) e_ (by kernel_rfl) ?_
            refine hK.out _ _ ?_ (fun hHeld => ?_)
            · exact ⟨has_rowo11 s0 (by omega) _, below_row s1 (by omega) _, ⟨_, has_row11 h_ (psA (beginP t x)), by kernel_rfl⟩⟩
            refine wpAnyH_more11 (T := (fun W_ => Has W_ (w.heap.size) 27 (tpC t a) ∧ Below w3.heap.size w3 W_ ∧ Has W_ (gx) 29 (psA (beginP t x)))) (fun _ ⟨s0, s1, s2⟩ => ⟨s0, s1, ⟨_, s2, by kernel_rfl⟩⟩) ?_
            have hHeld2 : (fun W_ => Has W_ (w.heap.size) 27 (tpC t a) ∧ Below w3.heap.size w3 W_ ∧ Has W_ (gx) 29 (psA (beginP t x))) _ := ⟨has_rowo11 s0 (by omega) _, below_row s1 (by omega) _, has_row11 h_ (psA (beginP t x))⟩
            clear hHeld
            have hHeld := hHeld2
            clear hHeld2 hK K h_ e_ s0 s1
            try simp only [Act.put]
            refine wpAnyH_done (by kernel_rfl) ?_ _
            go_wp2_with fail
            go_meet
            exact ⟨gx, rfl, Lib.hid hHeld.2.2, Lib.hid hHeld.2.1⟩
          exact AllReadyH.nil
        exact AllReadyH.nil
      exact AllReadyH.nil
    case rest =>
      obtain ⟨gx, rfl, HGX, HBX⟩ := hcut
      clear y0 y1 hlow HG0r HG1r HCX
      have HBY := Lib.hid (HBL.out.trans (HBX.out.mono HBL.out.size))
      have HBW := Lib.hid (HB.out.trans (HBY.out.mono HB.out.size))
      have HG0w := Lib.hid (HG0.out.under HBY.out HG0.out.lt)
      have HG1w := Lib.hid (HG1.out.under HBY.out HG1.out.lt)
      have c0 : wc.cell? ⟨w.heap.size, 0, none⟩ = some (.slice (some ⟨be, oe, none⟩) t.edges.length a.ce) := by have h_ := HG0w.out.cell 0; rw [← HAE.out]; exact h_
      have g0 : wc.cell? ⟨gx, 0, none⟩ = some (.int .i64 (ke : Int)) := by have h_ := HGX.out.cell 0; rw [← HKE.out, ← edge_begin t x]; exact h_
      have ce := HCE.out wc HBW.out
      obtain ⟨ne, hne⟩ : ∃ m, t.edges.length = m := ⟨_, rfl⟩
      have hkl := HKL.out
      rw [hne] at c0 hkl
      have z0 : (0 : Int) ≤ ke := by omega
      have z1 : (ke : Int) < ne := by omega
      clear hkl hne
      by_cases hmq : mm ≤ q
      · have HMQ := Lib.hid hmq
        have HBB := Lib.hid (show 0 ≤ (beginP t x).at_ ∧ (beginP t x).at_ ≤ 1000000 from by have h_ := on_iff.1 (begin_on HED.out HXE.out); have h2_ := HQ.out; rw [← HLA.out, lenAt_edge, ← edge_begin t x] at h2_; exact ⟨h_.2.1, Int.le_trans h_.2.2 h2_.2⟩)
        go_upto_region 13 with fail
        clear c0 g0 ce z0 z1 hmq
        go_wp2_with (with_reducible refine wpList_load_row (o := ⟨some 54, _, _, _, _, _⟩) rfl 29 _ rfl (gx) rfl 29 (psA (beginP t x)) (0, 0) _ (HGX.out).raw11 Try.underlying29 rfl (by kernel_rfl) ?_)
        refine (rmoved_any (beginP t x) mm wc HMI.out.1 (by have h1_ := HMQ.out; have h2_ := HQ.out; omega) HBB.out.1 HBB.out.2).mono ?_
        rintro e w5 ⟨rfl, hb⟩
        have HB5 := Lib.hid (HBW.out.trans (hb.mono HBW.out.size))
        have HG15 := Lib.hid (HG1w.out.under hb HG1w.out.lt)
        clear hb
        have HR := Lib.hid (has_row11 HG15.out (psA (movedP (beginP t x) mm)))
        have HBF := Lib.hid (below_row (g := w.heap.size + 1) HB5.out (by omega) (psA (movedP (beginP t x) mm)))
        go_wp2_with (with_reducible refine wpList_store_rowTo (o := ⟨none, _, _, _, _, _⟩) rfl 29 _ _ rfl rfl (w.heap.size + 1) (psA (movedP (beginP t x) mm)) rfl rfl 29 _ (HG15.out).raw11 (by kernel_rfl) (by kernel_rfl) (by kernel_rfl) ?_)
        refine bodyPost_ret (results_row_tmp11 rfl _ _ (w.heap.size + 1) 29 _ _ rfl HR.out Try.underlying29 rfl (by kernel_rfl)) rfl ?_
        obtain ⟨rfl, rfl⟩ := Prod.mk.inj (show (rP, rE) = (movedP (beginP t x) mm, 0) from by rw [HOI.out, HGO.out, drop_cons14 HX.out, offGo, if_pos (by rw [HLA.out]; exact HMQ.out)])
        exact ⟨rfl, HBF.out⟩
      have HMQ := Lib.hid (show q < mm by omega)
      have HS14 := Lib.hid (show mm ≤ q + sumT t (path.drop (i + 1)) from by have h_ := HMI.out.2.1; rw [drop_cons14 HX.out] at h_; rw [← HLA.out]; exact h_)
      have hsb : sumT t (path.drop (i + 1)) ≤ 40000000 := by have h1_ := (sum_ok HED.out (path := path.drop (i + 1)) (fun s hs => HLO.out.2.2.1 s (List.mem_of_mem_drop hs))).2; have h3_ : (path.drop (i + 1)).length ≤ 40 := (by rw [List.length_drop]; have := HL.out; omega); omega
      have hwr1 : IntKind.i64.wrap (mm - q) = mm - q := by have h1_ := HQ.out; have h2_ := HS14.out; have h3_ := HMI.out.1; rw [IntKind.wrap_i64]; omega
      clear hsb
      go_wp2
      go_roundg (k1 - 1)
      case measure => omega
      case rel =>
        refine ⟨i + 1, mm - q, by omega, by omega, by go_num, rfl, Lib.hid ⟨by have := HMQ.out; omega, by have := HS14.out; omega, .inr (by have := HMQ.out; omega)⟩, Lib.hid ?_, HBY⟩
        rw [HGO.out, drop_cons14 HX.out, offGo, if_neg (by rw [HLA.out]; have := HMQ.out; omega), HLA.out]

end Go.Proofs.Ytfchmjldhefmkaa
