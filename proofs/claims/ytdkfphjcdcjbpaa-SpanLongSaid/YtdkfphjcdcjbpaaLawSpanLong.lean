/-
  linesidelaw15: SpanLong.
-/
import Derived.Test.YtdkfphjcdcjbpaaLawSpanOvers

import Derived.Test.YtdkfphjcdcjbpaaToBack

import Derived.BigQuiet

import Derived.IntWalk

namespace Go.Proofs.Ytdkfphjcdcjbpaa

open Go.RowKit

open Go.Great

theorem nodup_take15 {path : List St3} {i : Nat} {x : St3} (hx : path[i]? = some x) (h : ((path.take i).map (·.edge)).Nodup) (hn : ∀ (m : Nat) (y : St3), m < i → path[m]? = some y → y.edge ≠ x.edge) : ((path.take (i + 1)).map (·.edge)).Nodup := by
  rw [List.take_add_one, hx, List.map_append, List.nodup_append]
  refine ⟨h, by simp, fun u hu v hv e => ?_⟩
  simp only [Option.toList_some, List.map_cons, List.map_nil, List.mem_singleton] at hv
  obtain ⟨y, hy, rfl⟩ := List.mem_map.1 hu
  obtain ⟨m, hm, rfl⟩ := List.getElem_of_mem hy
  rw [List.length_take] at hm
  rw [List.getElem_take] at e
  exact hn m _ (by omega) (List.getElem?_eq_getElem (by omega)) (e.trans hv)

set_option maxRecDepth 100000 in
set_option maxHeartbeats 20000000 in
theorem spanLong_walk (t : Tp3) (a : TpA) (A : Option Addr) (n c : Nat) (path : List St3) (xa xb xc : Int) (w : World) (ht : TopR w t a) (hcj : t.joints.length ≤ a.cj) (hp : SlO stC 2 w A n c path) (hnc : n ≤ c) (hxa : (Lit.int .i64 xa).wf = true) (hxb : (Lit.int .i64 xb).wf = true) (hxc : (Lit.int .i64 xc).wf = true) :
    Calls Try.prog 8 #[.agg (tpC t a), .slice A n c, .int .i64 xa, .int .i64 xb, .int .i64 xc] w fun e w' => e = .returned (.bool true) ∧ Below w.heap.size w w' := by
  obtain ⟨wa, hwa⟩ : ∃ wa, w.alloc (.cells (tpC t a) 33) = wa := ⟨_, rfl⟩
  have hbwa : Below w.heap.size w wa := by rw [← hwa]; exact (Below.refl _ _).alloc (Nat.le_refl _) _
  have h0 : Has wa (w.heap.size) 33 (tpC t a) := by rw [← hwa]; exact (Has.made _ _ _)
  have HWA := Lib.hid hwa; have HBWA := Lib.hid hbwa
  have HT := Lib.hid (fun W (hW : Below w.heap.size w W) => ht.under hW)
  have HP := Lib.hid (fun W (hW : Below w.heap.size w W) => hp.under hW)
  have HL := Lib.hid hp.1
  have HNC := Lib.hid hnc
  have HCJ := Lib.hid hcj
  have HG0 := Lib.hid h0
  have HIxa := Lib.hid (int_bounds11 hxa)
  have HIxb := Lib.hid (int_bounds11 hxb)
  have HIxc := Lib.hid (int_bounds11 hxc)
  clear hwa hbwa h0 ht hcj hp hnc hxa hxb hxc
  obtain ⟨q, hq⟩ : ∃ q, lightT t = q := ⟨_, rfl⟩
  have HQ := Lib.hid hq
  clear hq
  go_enter Try.func8, Try.ntmps8
  go_upto_region 1 with fail
  rw [HWA.out]
  clear HWA
  go_wp2_with fail
  refine (awake15_any wa).mono ?_
  rintro e w1 ⟨rfl, hb⟩
  have HB := HBWA
  clear HBWA
  have HB := Lib.hid (HB.out.trans (hb.mono HB.out.size))
  have HG0 := Lib.hid (HG0.out.under hb HG0.out.lt)
  clear hb
  go_wp2_with (with_reducible refine wpList_load_row (o := ⟨some 25, _, _, _, _, _⟩) rfl 33 _ rfl (w.heap.size) rfl 33 (tpC t a) (0, 0) _ (HG0.out).raw11 Try.underlying33 rfl (by kernel_rfl) ?_)
  refine (rlight_any13 t a w1 (HT.out _ HB.out)).mono ?_
  rw [HQ.out]
  rintro e w2 ⟨rfl, hb⟩
  have HB := Lib.hid (HB.out.trans (hb.mono HB.out.size))
  have HG0 := Lib.hid (HG0.out.under hb HG0.out.lt)
  clear hb
  cases q with
  | false =>
    go_wp2
    go_ret
    exact ⟨by first | rfl | simp, HB.out⟩
  | true =>
    by_cases zn : 100 < n
    · have x1_ : (100 : Int) < n := by omega
      go_wp2
      go_ret
      exact ⟨by first | rfl | simp, HB.out⟩
    have x1_ : ¬ (100 : Int) < n := by omega
    have HN := Lib.hid (show n ≤ 100 by omega)
    have HB0 := HB
    have HN6 := HN
    have HG00 := HG0
    obtain ⟨wb, hwb⟩ : ∃ wb, wb = w2 := ⟨_, rfl⟩
    subst hwb
    go_upto_region 5 with fail
    clear zn x1_
    go_wp2
    go_loopg [13] n (fun kk v wl => ∃ (i q : Nat), i ≤ n ∧ n - i ≤ kk ∧ v = .int .i64 i ∧ Hid (((path.take i).map (·.edge)).Nodup) ∧ wl = wb.drewN q)
    case atStart => exact ⟨0, 0, by omega, by omega, rfl, Lib.hid (by simp), rfl⟩
    case round =>
      obtain ⟨i, q, hi, hik, rfl, HND, hwr⟩ := hrel
      have HBD := Lib.hid (show Below wb.heap.size wb wr from by rw [hwr]; exact below_draws (Below.refl _ _) q)
      have HB := Lib.hid (HB0.out.trans (HBD.out.mono HB0.out.size))
      have HWR := Lib.hid hwr
      clear hwr
      have hn1 : n ≤ 100 := HN.out
      by_cases hlt : i < n
      rotate_left
      · obtain rfl : i = n := by omega
        have x1 : ¬ (i : Int) < i := by omega
        have HDU := Lib.hid (show (path.map (·.edge)).Nodup from by have h_ := HND.out; rw [List.take_of_length_le (by rw [HL.out]; exact Nat.le_refl _)] at h_; exact h_)
        have HG0 := Lib.hid (HG00.out.under HBD.out HG00.out.lt)
        clear HND HWR hi hik hlt HBD HB0 HG00 HN6
        obtain ⟨n, hn_⟩ : ∃ n, n = i := ⟨_, rfl⟩
        subst hn_
        obtain ⟨L1, hL_⟩ : ∃ q, (overE t path xa xb).1 = q := ⟨_, rfl⟩
        obtain ⟨E1, hE_⟩ : ∃ q, (overE t path xa xb).2 = q := ⟨_, rfl⟩
        have HR1 := Lib.hid (show overE t path xa xb = (L1, E1) from Prod.ext hL_ hE_)
        have HFW1 := Lib.hid (show L1.length ≤ 4096 from by rw [← hL_]; have h_ := over_few t path xa xb; have h2_ := HL.out; have h3_ := HN.out; omega)
        clear hL_ hE_
        obtain ⟨L2, hL_⟩ : ∃ q, (overE t path xb xc).1 = q := ⟨_, rfl⟩
        obtain ⟨E2, hE_⟩ : ∃ q, (overE t path xb xc).2 = q := ⟨_, rfl⟩
        have HR2 := Lib.hid (show overE t path xb xc = (L2, E2) from Prod.ext hL_ hE_)
        have HFW2 := Lib.hid (show L2.length ≤ 4096 from by rw [← hL_]; have h_ := over_few t path xb xc; have h2_ := HL.out; have h3_ := HN.out; omega)
        clear hL_ hE_
        go_upto_region 13 with fail
        clear x1
        have hk_ := osn_over t a path A n c xa xb wr (HT.out _ HB.out) HCJ.out (HP.out _ HB.out) HN.out HNC.out HQ.out HIxa.out HIxb.out
        rw [HR1.out] at hk_
        have HK := Lib.hid hk_
        clear hk_
        go_wp2_with (with_reducible refine wpList_load_row (o := ⟨some 62, _, _, _, _, _⟩) rfl 33 _ rfl (w.heap.size) rfl 33 (tpC t a) (0, 0) _ (HG0.out).raw11 Try.underlying33 rfl (by kernel_rfl) ?_)
        refine HK.out.mono ?_
        rintro r_ v1 ⟨X1, x1, rfl, hs_, hc_, hb⟩
        clear HK
        have HB := Lib.hid (HB.out.trans (hb.mono HB.out.size))
        have HG0 := Lib.hid (HG0.out.under hb HG0.out.lt)
        clear hb
        obtain ⟨k1, hk_⟩ : ∃ k_, L1.length = k_ := ⟨_, rfl⟩
        have hs2_ : SlO snC 3 v1 X1 L1.length x1 L1 := hs_
        have hc2_ : L1.length ≤ x1 := hc_
        rw [hk_] at hs2_ hc2_
        simp only [hk_]
        have HSx := Lib.hid hs2_
        have HCx := Lib.hid hc2_
        have HNx := Lib.hid (show k1 ≤ 4096 from by rw [← hk_]; exact HFW1.out)
        clear hs_ hc_ hk_ hs2_ hc2_
        go_upto_region 14 with fail
        have hk_ := osn_over t a path A n c xb xc v1 (HT.out _ HB.out) HCJ.out (HP.out _ HB.out) HN.out HNC.out HQ.out HIxb.out HIxc.out
        rw [HR2.out] at hk_
        have HK := Lib.hid hk_
        clear hk_
        go_wp2_with (with_reducible refine wpList_load_row (o := ⟨some 70, _, _, _, _, _⟩) rfl 33 _ rfl (w.heap.size) rfl 33 (tpC t a) (0, 0) _ (HG0.out).raw11 Try.underlying33 rfl (by kernel_rfl) ?_)
        refine HK.out.mono ?_
        rintro r_ v2 ⟨X2, x2, rfl, hs_, hc_, hb⟩
        clear HK
        have HB := Lib.hid (HB.out.trans (hb.mono HB.out.size))
        have HSx := Lib.hid (HSx.out.under hb)
        have HG0 := Lib.hid (HG0.out.under hb HG0.out.lt)
        clear hb
        obtain ⟨k2, hk_⟩ : ∃ k_, L2.length = k_ := ⟨_, rfl⟩
        have hs2_ : SlO snC 3 v2 X2 L2.length x2 L2 := hs_
        have hc2_ : L2.length ≤ x2 := hc_
        rw [hk_] at hs2_ hc2_
        simp only [hk_]
        have HSy := Lib.hid hs2_
        have HCy := Lib.hid hc2_
        have HNy := Lib.hid (show k2 ≤ 4096 from by rw [← hk_]; exact HFW2.out)
        clear hs_ hc_ hk_ hs2_ hc2_
        by_cases ze1 : E1 = 0
        rotate_left
        · have q1_ : (E1 != 0) = true := by simp [ze1]
          have q2_ : (E1 == 0) = false := by simp [ze1]
          go_wp2
          go_ret
          exact ⟨by first | rfl | simp, HB.out⟩
        subst ze1
        by_cases ze2 : E2 = 0
        rotate_left
        · have q1_ : (E2 != 0) = true := by simp [ze2]
          have q2_ : (E2 == 0) = false := by simp [ze2]
          go_wp2
          go_ret
          exact ⟨by first | rfl | simp, HB.out⟩
        subst ze2
        obtain ⟨S1, S2, S3, S4, S5, S6, S7⟩ := span_long (t := t) (path := path) (a := xa) (b := xb) (c := xc) HDU.out (by rw [HR1.out]) (by rw [HR2.out])
        have Z1 := over_zero (t := t) (path := path) (fr := xa) (tz := xb) (by rw [HR1.out])
        have Z2 := over_zero (t := t) (path := path) (fr := xb) (tz := xc) (by rw [HR2.out])
        have HRG := Lib.hid (show 0 ≤ xa ∧ xa ≤ xb ∧ xb ≤ xc ∧ xc ≤ 40000000 from by have h1_ := Z1.2.2; have h2_ := Z2.2.2; have h3_ := sum_ok Z1.2.1 (path := path) (len_ok Z1.1).2.2.1; have h4_ := (len_ok Z1.1).2.1; omega)
        clear Z1 Z2
        obtain ⟨L3, hL_⟩ : ∃ q, (overE t path xa xc).1 = q := ⟨_, rfl⟩
        obtain ⟨E3, hE_⟩ : ∃ q, (overE t path xa xc).2 = q := ⟨_, rfl⟩
        have HR3 := Lib.hid (show overE t path xa xc = (L3, E3) from Prod.ext hL_ hE_)
        have HFW3 := Lib.hid (show L3.length ≤ 4096 from by rw [← hL_]; have h_ := over_few t path xa xc; have h2_ := HL.out; have h3_ := HN.out; omega)
        clear hL_ hE_
        obtain ⟨L4, hL_⟩ : ∃ q, (overE t (backL path) 0 (xc - xa)).1 = q := ⟨_, rfl⟩
        obtain ⟨E4, hE_⟩ : ∃ q, (overE t (backL path) 0 (xc - xa)).2 = q := ⟨_, rfl⟩
        have HR4 := Lib.hid (show overE t (backL path) 0 (xc - xa) = (L4, E4) from Prod.ext hL_ hE_)
        have HFW4 := Lib.hid (show L4.length ≤ 4096 from by rw [← hL_]; have h_ := over_few t (backL path) 0 (xc - xa); have h2_ := HL.out; have h5_ : (backL path).length = path.length := (by simp [backL]); have h3_ := HN.out; omega)
        clear hL_ hE_
        rw [HR1.out, HR2.out, HR3.out] at S3
        rw [HR1.out, HR2.out] at S4
        rw [HR3.out] at S1 S5
        rw [HR1.out] at S6
        rw [HR4.out] at S2 S7
        have HS1 := Lib.hid S1; have HS2 := Lib.hid S2; have HS3_ := Lib.hid S3; have HS4 := Lib.hid S4; have HS5 := Lib.hid S5; have HS6 := Lib.hid S6; have HS7 := Lib.hid S7
        dsimp only at S1 S2
        subst S1 S2
        clear S3 S4 S5 S6 S7
        clear HS1 HS2
        go_upto_region 17 with fail
        have hk_ := osn_over t a path A n c xa xc v2 (HT.out _ HB.out) HCJ.out (HP.out _ HB.out) HN.out HNC.out HQ.out HIxa.out HIxc.out
        rw [HR3.out] at hk_
        have HK := Lib.hid hk_
        clear hk_
        go_wp2_with (with_reducible refine wpList_load_row (o := ⟨some 84, _, _, _, _, _⟩) rfl 33 _ rfl (w.heap.size) rfl 33 (tpC t a) (0, 0) _ (HG0.out).raw11 Try.underlying33 rfl (by kernel_rfl) ?_)
        refine HK.out.mono ?_
        rintro r_ v3 ⟨X3, x3, rfl, hs_, hc_, hb⟩
        clear HK
        have HB := Lib.hid (HB.out.trans (hb.mono HB.out.size))
        have HSx := Lib.hid (HSx.out.under hb)
        have HSy := Lib.hid (HSy.out.under hb)
        have HG0 := Lib.hid (HG0.out.under hb HG0.out.lt)
        clear hb
        obtain ⟨k3, hk_⟩ : ∃ k_, L3.length = k_ := ⟨_, rfl⟩
        have hs2_ : SlO snC 3 v3 X3 L3.length x3 L3 := hs_
        have hc2_ : L3.length ≤ x3 := hc_
        rw [hk_] at hs2_ hc2_
        simp only [hk_]
        have HSz := Lib.hid hs2_
        have HCz := Lib.hid hc2_
        have HNz := Lib.hid (show k3 ≤ 4096 from by rw [← hk_]; exact HFW3.out)
        clear hs_ hc_ hk_ hs2_ hc2_
        have hwd : IntKind.i64.wrap (xc - xa) = xc - xa := by have h_ := HRG.out; rw [IntKind.wrap_i64]; omega
        have hwe : IntKind.i64.wrap (xb - xa) = xb - xa := by have h_ := HRG.out; rw [IntKind.wrap_i64]; omega
        go_upto_region 18 with fail
        refine wp_region_held_drew (S := (fun W_ => Has W_ (w.heap.size) 33 (tpC t a) ∧ Below v3.heap.size v3 W_)) (by kernel_rfl) ?_ (fun hHeld => ?_)
        · exact ⟨HG0.out.draw, below_dr11 (Below.refl _ _)⟩
        refine wpAnyH_take (i := 0) (oi := ⟨some 92, _, _, _, _, _⟩) (v := .agg (tpC t a)) rfl (by kernel_rfl) (by kernel_rfl) (by kernel_rfl) (fun _ _ _ h => h) (yields_load_row11 33 _ rfl (w.heap.size) rfl 33 (tpC t a) _ (fun _ ⟨h_, _⟩ => h_) Try.underlying33 rfl (by kernel_rfl) (by rfl)) (by assumption) ?_
        simp only [Act.put, List.setIfInBounds_toArray, List.set_cons_zero, List.set_cons_succ]
        refine wpAnyH_take (i := 1) (oi := ⟨some 93, _, _, _, _, _⟩) (v := ?_) rfl (by kernel_rfl) (by kernel_rfl) (by kernel_rfl) (fun _ _ _ h => h) (Or.inl ⟨by rfl, ?_⟩) (by assumption) ?_
        rotate_left
        · intro w_ hSw; (try dsimp only at hSw); go_simp <;> with_reducible rfl
        simp only [Act.put, List.setIfInBounds_toArray, List.set_cons_zero, List.set_cons_succ]
        refine wpAnyH_take (i := 3) (oi := ⟨some 95, _, _, _, _, _⟩) (v := ?_) rfl (by kernel_rfl) (by kernel_rfl) (by kernel_rfl) (fun _ _ _ h => h) (Or.inl ⟨by rfl, ?_⟩) (by assumption) ?_
        rotate_left
        · intro w_ hSw; (try dsimp only at hSw); go_simp <;> with_reducible rfl
        simp only [Act.put, List.setIfInBounds_toArray, List.set_cons_zero, List.set_cons_succ]
        refine wpAnyH_take (i := 4) (oi := ⟨some 96, _, _, _, _, _⟩) (v := ?_) rfl (by kernel_rfl) (by kernel_rfl) (by kernel_rfl) (fun _ _ _ h => h) (Or.inl ⟨by rfl, ?_⟩) (by assumption) ?_
        rotate_left
        · intro w_ hSw; (try dsimp only at hSw); go_simp <;> with_reducible rfl
        simp only [Act.put, List.setIfInBounds_toArray, List.set_cons_zero, List.set_cons_succ]
        refine wpAnyH_take (i := 5) (oi := ⟨some 97, _, _, _, _, _⟩) (v := ?_) rfl (by kernel_rfl) (by kernel_rfl) (by kernel_rfl) (fun _ _ _ h => h) (Or.inl ⟨by rfl, ?_⟩) (by assumption) ?_
        rotate_left
        · intro w_ hSw; (try dsimp only at hSw); go_simp <;> with_reducible rfl
        simp only [Act.put, List.setIfInBounds_toArray, List.set_cons_zero, List.set_cons_succ]
        refine wpAnyH_ready (rs := [2]) (by kernel_rfl) (by simp) ?_
        refine AllReadyH.cons (o := ⟨some 94, _, _, _, _, _⟩) rfl (fun K hK => ?_) ?_
        · go_simp
          obtain ⟨s0, s1⟩ := hHeld
          refine (otp_back path A n c _ (HP.out _ (HB.out.trans (s1.mono HB.out.size))) HN.out).mono ?_
          rintro e_ vb ⟨B, d, rfl, hsb_, hnd_, hbs⟩
          have HSB_ := Lib.hid hsb_
          have HND2 := Lib.hid hnd_
          clear hsb_ hnd_
          go_wp2_with fail
          refine hK.out _ _ ?_ (fun hHeld => ?_)
          · exact ⟨s0.under hbs s0.lt, s1.trans (hbs.mono s1.size)⟩
          refine wpAnyH_more11 (T := (fun W_ => Has W_ (w.heap.size) 33 (tpC t a) ∧ Below v3.heap.size v3 W_ ∧ SlO stC 2 W_ B (n) d ((backL path)))) (fun _ ⟨s0, s1, s2⟩ => ⟨s0, s1⟩) ?_
          have hHeld2 : (fun W_ => Has W_ (w.heap.size) 33 (tpC t a) ∧ Below v3.heap.size v3 W_ ∧ SlO stC 2 W_ B (n) d ((backL path))) _ := ⟨s0.under hbs s0.lt, s1.trans (hbs.mono s1.size), HSB_.out⟩
          clear hHeld
          have hHeld := hHeld2
          clear hHeld2
          clear hK K s0 s1
          try simp only [Act.put, List.setIfInBounds_toArray, List.set_cons_zero, List.set_cons_succ]
          refine wpAnyH_ready (rs := [6]) (by kernel_rfl) (by simp) ?_
          refine AllReadyH.cons (o := ⟨some 98, _, _, _, _, _⟩) rfl (fun K hK => ?_) ?_
          · go_simp
            obtain ⟨s0, s1, s2⟩ := hHeld
            have hk_ := osn_over t a (backL path) B n d 0 (xc - xa) _ (HT.out _ (HB.out.trans (s1.mono HB.out.size))) HCJ.out s2 HN.out HND2.out HQ.out (by omega) (by have h_ := HRG.out; omega)
            rw [HR4.out] at hk_
            refine hk_.mono ?_
            rintro e_ vo ⟨XB, xB, rfl, hso_, hco_, hbs⟩
            have HSO_ := Lib.hid hso_
            have HCO_ := Lib.hid hco_
            clear hso_ hco_ hk_
            go_wp2_with fail
            refine hK.out _ _ ?_ (fun hHeld => ?_)
            · exact ⟨s0.under hbs s0.lt, s1.trans (hbs.mono s1.size), s2.under hbs⟩
            clear hK K s0 s1 s2
            try simp only [Act.put, List.setIfInBounds_toArray, List.set_cons_zero, List.set_cons_succ]
            refine wpAnyH_take (i := 7) (oi := ⟨some 91, _, _, _, _, _⟩) (v := ?_) rfl (by kernel_rfl) (by kernel_rfl) (by kernel_rfl) (fun _ _ _ h => h) (Or.inl ⟨by rfl, ?_⟩) (by assumption) ?_
            rotate_left
            · intro w_ hSw; (try dsimp only at hSw); go_simp <;> with_reducible rfl
            simp only [Act.put, List.setIfInBounds_toArray, List.set_cons_zero, List.set_cons_succ]
            refine wpAnyH_take (i := 8) (oi := ⟨some 99, _, _, _, _, _⟩) (v := ?_) rfl (by kernel_rfl) (by kernel_rfl) (by kernel_rfl) (fun _ _ _ h => h) (Or.inl ⟨by rfl, ?_⟩) (by assumption) ?_
            rotate_left
            · intro w_ hSw; (try dsimp only at hSw); go_simp <;> with_reducible rfl
            simp only [Act.put, List.setIfInBounds_toArray, List.set_cons_zero, List.set_cons_succ]
            refine wpAnyH_take (i := 9) (oi := ⟨some 100, _, _, _, _, _⟩) (v := ?_) rfl (by kernel_rfl) (by kernel_rfl) (by kernel_rfl) (fun _ _ _ h => h) (Or.inl ⟨by rfl, ?_⟩) (by assumption) ?_
            rotate_left
            · intro w_ hSw; (try dsimp only at hSw); go_simp <;> with_reducible rfl
            simp only [Act.put, List.setIfInBounds_toArray, List.set_cons_zero, List.set_cons_succ]
            refine wpAnyH_take (i := 10) (oi := ⟨some 21, _, _, _, _, _⟩) (v := ?_) rfl (by kernel_rfl) (by kernel_rfl) (by kernel_rfl) (fun _ _ _ h => h) (Or.inl ⟨by rfl, ?_⟩) (by assumption) ?_
            rotate_left
            · intro w_ hSw; (try dsimp only at hSw); go_simp <;> with_reducible rfl
            simp only [Act.put, List.setIfInBounds_toArray, List.set_cons_zero, List.set_cons_succ]
            refine wpAnyH_take (i := 11) (oi := ⟨some 22, _, _, _, _, _⟩) (v := ?_) rfl (by kernel_rfl) (by kernel_rfl) (by kernel_rfl) (fun _ _ _ h => h) (Or.inl ⟨by rfl, ?_⟩) (by assumption) ?_
            rotate_left
            · intro w_ hSw; (try dsimp only at hSw); go_simp <;> with_reducible rfl
            simp only [Act.put, List.setIfInBounds_toArray, List.set_cons_zero, List.set_cons_succ]
            refine wpAnyH_done (by kernel_rfl) ?_ _
            have HB := Lib.hid (HB.out.trans (hHeld.2.1.mono HB.out.size))
            have HSx := Lib.hid (HSx.out.under hHeld.2.1)
            have HSy := Lib.hid (HSy.out.under hHeld.2.1)
            have HSz := Lib.hid (HSz.out.under hHeld.2.1)
            have HG0 := Lib.hid hHeld.1
            clear hHeld
            obtain ⟨k9, hk_⟩ : ∃ k_, L4.length = k_ := ⟨_, rfl⟩
            have hs2_ : SlO snC 3 vo XB L4.length xB L4 := HSO_.out
            have hc2_ : L4.length ≤ xB := HCO_.out
            rw [hk_] at hs2_ hc2_
            simp only [hk_]
            have HSk := Lib.hid hs2_
            have HCk := Lib.hid hc2_
            have HNk := Lib.hid (show k9 ≤ 4096 from by rw [← hk_]; exact HFW4.out)
            clear hs2_ hc2_ hk_ HSO_ HCO_ HSB_ HND2
            go_wp2_with fail
            refine (osn_union (L1) (L2) X1 X2 k1 x1 k2 x2 vo HSx.out HSy.out HCx.out HCy.out (by have := HNx.out; omega) (by have := HNy.out; omega)).mono ?_
            rintro r_ v4 ⟨X4, x4, rfl, hs_, hc_, hb⟩
            have HB := Lib.hid (HB.out.trans (hb.mono HB.out.size))
            have HSx := Lib.hid (HSx.out.under hb)
            have HSy := Lib.hid (HSy.out.under hb)
            have HSz := Lib.hid (HSz.out.under hb)
            have HSk := Lib.hid (HSk.out.under hb)
            have HG0 := Lib.hid (HG0.out.under hb HG0.out.lt)
            clear hb
            obtain ⟨k4, hk_⟩ : ∃ k_, (unionL L1 L2).length = k_ := ⟨_, rfl⟩
            rw [hk_] at hs_ hc_
            simp only [hk_]
            have HSu := Lib.hid hs_
            have HCu := Lib.hid hc_
            have HNu := Lib.hid (show k4 ≤ 20000 from by rw [← hk_]; have h_ := form_few L1 L2 ⟨true, true, true⟩; have h1_ := HFW1.out; have h2_ := HFW2.out; unfold unionL; omega)
            clear hs_ hc_ hk_
            go_wp2_with fail
            have hq_ : sameN (unionL L1 L2) L3 = true := (sameN_iff _ _).2 HS3_.out
            refine (rssame_any (unionL L1 L2) L3 X4 X3 k4 x4 k3 x3 v4 HSu.out HSz.out (by have := HNu.out; omega) (by have := HNz.out; omega)).mono ?_
            rw [hq_]
            clear hq_
            rintro r_ v5 ⟨rfl, hb⟩
            have HB := Lib.hid (HB.out.trans (hb.mono HB.out.size))
            have HSx := Lib.hid (HSx.out.under hb)
            have HSy := Lib.hid (HSy.out.under hb)
            have HSz := Lib.hid (HSz.out.under hb)
            have HSk := Lib.hid (HSk.out.under hb)
            have HSu := Lib.hid (HSu.out.under hb)
            have HG0 := Lib.hid (HG0.out.under hb HG0.out.lt)
            clear hb
            clear HSu HCu HNu
            go_wp2_with fail
            refine (osn_meets (L1) (L2) X1 X2 k1 x1 k2 x2 v5 HSx.out HSy.out HCx.out HCy.out (by have := HNx.out; omega) (by have := HNy.out; omega)).mono ?_
            rw [HS4.out]
            rintro r_ v6 ⟨rfl, hb⟩
            have HB := Lib.hid (HB.out.trans (hb.mono HB.out.size))
            have HSx := Lib.hid (HSx.out.under hb)
            have HSy := Lib.hid (HSy.out.under hb)
            have HSz := Lib.hid (HSz.out.under hb)
            have HSk := Lib.hid (HSk.out.under hb)
            have HG0 := Lib.hid (HG0.out.under hb HG0.out.lt)
            clear hb
            have q5 : (xc - xa == xc - xa) = true := by simp
            have q6 : (xb - xa == xb - xa) = true := by simp
            go_wp2_with fail
            refine (osn_total (L3) X3 k3 x3 v6 HSz.out HCz.out (by have := HNz.out; omega)).mono ?_
            rw [HS5.out]
            rintro r_ v7 ⟨rfl, hb⟩
            have HB := Lib.hid (HB.out.trans (hb.mono HB.out.size))
            have HSx := Lib.hid (HSx.out.under hb)
            have HSy := Lib.hid (HSy.out.under hb)
            have HSz := Lib.hid (HSz.out.under hb)
            have HSk := Lib.hid (HSk.out.under hb)
            have HG0 := Lib.hid (HG0.out.under hb HG0.out.lt)
            clear hb
            go_wp2_with fail
            refine (osn_total (L1) X1 k1 x1 v7 HSx.out HCx.out (by have := HNx.out; omega)).mono ?_
            rw [HS6.out]
            rintro r_ v8 ⟨rfl, hb⟩
            have HB := Lib.hid (HB.out.trans (hb.mono HB.out.size))
            have HSx := Lib.hid (HSx.out.under hb)
            have HSy := Lib.hid (HSy.out.under hb)
            have HSz := Lib.hid (HSz.out.under hb)
            have HSk := Lib.hid (HSk.out.under hb)
            have HG0 := Lib.hid (HG0.out.under hb HG0.out.lt)
            clear hb
            go_wp2_with fail
            refine (osn_total (L4) XB k9 xB v8 HSk.out HCk.out (by have := HNk.out; omega)).mono ?_
            rw [HS7.out]
            rintro r_ v9 ⟨rfl, hb⟩
            have HB := Lib.hid (HB.out.trans (hb.mono HB.out.size))
            have HSx := Lib.hid (HSx.out.under hb)
            have HSy := Lib.hid (HSy.out.under hb)
            have HSz := Lib.hid (HSz.out.under hb)
            have HSk := Lib.hid (HSk.out.under hb)
            have HG0 := Lib.hid (HG0.out.under hb HG0.out.lt)
            clear hb
            go_wp2
            go_ret
            exact ⟨by first | rfl | simp, HB.out⟩
          exact AllReadyH.nil
        exact AllReadyH.nil
      obtain ⟨x, hx⟩ : ∃ x, path[i]? = some x := ⟨_, List.getElem?_eq_getElem (by rw [HL.out]; omega)⟩
      have HX := Lib.hid hx
      obtain ⟨bk, off, rfl, -, -⟩ := (HP.out wr HB.out).step hx
      have x1 : (i : Int) < n := by omega
      have HLT := Lib.hid hlt
      clear hx
      obtain ⟨w3, hw3⟩ : ∃ w3, w3 = wr := ⟨_, rfl⟩
      subst hw3
      obtain ⟨k1, hk1⟩ : ∃ k1, k1 = gk := ⟨_, rfl⟩
      subst hk1
      go_upto_region 8 with fail
      clear x1
      go_wp2
      go_loopg [14] i (fun kk v wl => ∃ (k q2 : Nat), k ≤ i ∧ i - k ≤ kk ∧ v = .int .i64 k ∧ Hid (∀ m y, m < k → path[m]? = some y → y.edge ≠ x.edge) ∧ wl = w3.drewN q2)
      case atStart => exact ⟨0, 0, by omega, by omega, rfl, Lib.hid (fun m y h => absurd h (by omega)), rfl⟩
      case round =>
        obtain ⟨k, q2, hk, hkk, rfl, HNE, hw4⟩ := hrel
        have HB4 := Lib.hid (show Below w.heap.size w wr from by rw [hw4]; exact below_draws HB.out q2)
        have HW4 := Lib.hid hw4
        clear hw4
        by_cases hkl : k < i
        rotate_left
        · obtain rfl : k = i := by omega
          have x2 : ¬ (k : Int) < k := by omega
          clear hk hkk hkl
          go_wp2
          go_roundg (k1 - 1)
          case measure => omega
          case rel => exact ⟨k + 1, q + q2, by omega, by omega, by go_num, Lib.hid (nodup_take15 HX.out HND.out HNE.out), by rw [HW4.out, HWR.out, World.drewN_drewN]⟩
        obtain ⟨y, hy⟩ : ∃ y, path[k]? = some y := ⟨_, List.getElem?_eq_getElem (by rw [HL.out]; omega)⟩
        have HY := Lib.hid hy
        obtain ⟨b_, o_, e_, e0, -⟩ := (HP.out wr HB4.out).step hy
        injection e_ with e_
        injection e_ with e1_ e2_ _
        subst e1_ e2_
        obtain ⟨b_, o_, e_, f0, -⟩ := (HP.out wr HB4.out).step HX.out
        injection e_ with e_
        injection e_ with e1_ e2_ _
        subst e1_ e2_
        obtain ⟨ye, hye⟩ : ∃ e, y.edge = e := ⟨_, rfl⟩
        obtain ⟨xe, hxe⟩ : ∃ e, x.edge = e := ⟨_, rfl⟩
        have HYE := Lib.hid hye
        have HXE := Lib.hid hxe
        rw [hye] at e0
        rw [hxe] at f0
        clear hy hye hxe
        have y0 : (0 : Int) ≤ k := by omega
        have y1 : (k : Int) < n := by omega
        have y2 : (0 : Int) ≤ i := by omega
        have y3 : (i : Int) < n := by omega
        have y4 : (k : Int) < i := by omega
        by_cases hee : xe = ye
        · subst hee
          go_upto_region 11 with fail
          go_quiet (fail)
          go_wp2
          go_ret
          exact ⟨by first | rfl | simp, by first | exact below_draws HB4.out _ | (rw [World.drewN_drewN]; exact below_draws HB4.out _)⟩
        have g1 : (xe == ye) = false := by simp [hee]
        have HEE := Lib.hid (show y.edge ≠ x.edge from by rw [HYE.out, HXE.out]; exact fun h_ => hee h_.symm)
        clear hee
        go_upto_region 11 with fail
        go_quiet (fail)
        go_wp2
        go_roundg (gk - 1)
        case measure => omega
        case rel =>
          refine ⟨k + 1, _, by omega, by omega, by go_num, Lib.hid (fun m y' hm hy' => ?_), by first | (rw [HW4.out, World.drewN_drewN]) | (rw [HW4.out]; rfl) | (rw [HW4.out]; simp only [World.drewN_drewN]; rfl)⟩
          by_cases hmk : m = k
          · subst hmk
            rw [HY.out] at hy'
            injection hy' with hy'
            rw [← hy']
            exact HEE.out
          · exact HNE.out m y' (by omega) hy'

end Go.Proofs.Ytdkfphjcdcjbpaa
