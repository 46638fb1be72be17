/-
  linesidelaw14: PlaceAlong.
-/
import Derived.Test.YtfchmjldhefmkaaLawAwake14

import Derived.BigQuiet

import Derived.IntWalk

namespace Go.Proofs.Ytfchmjldhefmkaa

open Go.RowKit

open Go.Great

theorem nodup_take14 {path : List St3} {i : Nat} {x : St3} (hx : path[i]? = some x) (h : ((path.take i).map (·.edge)).Nodup) (hne : ∀ m y, m < i → path[m]? = some y → y.edge ≠ x.edge) : ((path.take (i + 1)).map (·.edge)).Nodup := by
  rw [List.take_add_one, hx, List.map_append, List.nodup_append]
  refine ⟨h, by simp, fun u hu v hv => ?_⟩
  simp at hv
  subst hv
  obtain ⟨y, hy, rfl⟩ := List.mem_map.1 hu
  obtain ⟨m, hm, rfl⟩ := List.getElem_of_mem hy
  rw [List.length_take] at hm
  exact hne m _ (by omega) (by rw [List.getElem_take]; exact List.getElem?_eq_getElem (by omega))
theorem off_ok14 {t : Tp3} {path : List St3} {n : Int} (h : (offE t path n).2 = 0) : checkE t = 0 ∧ lenE t path = 0 ∧ 0 ≤ n ∧ n ≤ sumT t path ∧ n ≤ 40000000 ∧ sumT t path ≤ 40000000 := by
  unfold offE at h
  split at h
  · rename_i hc
    split at h
    · rename_i hl
      split at h
      · rename_i hn
        obtain ⟨h1, h2, h3, h4⟩ := len_ok hl
        have h5 := (sum_ok (check_routes hc).1 h3).2
        exact ⟨hc, hl, hn.1, hn.2, by omega, by omega⟩
      · exact absurd h (show ¬ (1 : Int) = 0 by decide)
    · rename_i hl
      exact absurd h hl
  · exact absurd h (show ¬ (1 : Int) = 0 by decide)
theorem len_nodup14 {t : Tp3} {path : List St3} (h : lenE t path = 0) : lenN t path = sumT t path := by
  unfold lenN
  rw [if_pos h]

set_option maxRecDepth 100000 in
set_option maxHeartbeats 8000000 in
theorem placeAlong_walk (t : Tp3) (a : TpA) (A : Option Addr) (n c : Nat) (path : List St3) (m y : Int) (w : World) (ht : TopR w t a) (hcj : t.joints.length ≤ a.cj) (hp : SlO stC 2 w A n c path) (hnc : n ≤ c) (hwm : (Lit.int .i64 m).wf = true) (_ : (Lit.int .i64 y).wf = true) :
    Calls Try.prog 7 #[.agg (tpC t a), .slice A n c, .int .i64 m, .int .i64 y] w fun e w' => e = .returned (.bool true) ∧ Below w.heap.size w w' := by
  obtain ⟨wa, hwa⟩ : ∃ wa, w.alloc (.cells (tpC t a) 27) = wa := ⟨_, rfl⟩
  have hbwa : Below w.heap.size w wa := by rw [← hwa]; exact (Below.refl _ _).alloc (Nat.le_refl _) _
  have h0 : Has wa (w.heap.size) 27 (tpC t a) := by rw [← hwa]; exact (Has.made _ _ _)
  have HWA := Lib.hid hwa; have HBWA := Lib.hid hbwa
  have HT := Lib.hid (fun W (hW : Below w.heap.size w W) => ht.under hW)
  have HCJ := Lib.hid hcj
  have HG0 := Lib.hid h0
  clear hwa hbwa hcj ht h0
  have HP := Lib.hid (fun W (hW : Below w.heap.size w W) => hp.under hW)
  have HL := Lib.hid hp.1
  have HNC := Lib.hid hnc
  clear hp hnc
  have HMB := Lib.hid (int_bounds11 hwm)
  clear hwm
  obtain ⟨q, hq⟩ : ∃ q, lightT t = q := ⟨_, rfl⟩
  have HQ := Lib.hid hq
  clear hq
  go_enter Try.func7, Try.ntmps7
  go_upto_region 1 with fail
  rw [HWA.out]
  clear HWA
  go_wp2_with fail
  refine (awake14_any wa).mono ?_
  rintro e w1 ⟨rfl, hb⟩
  have HB := HBWA
  clear HBWA
  have HB := Lib.hid (HB.out.trans (hb.mono HB.out.size))
  have HG0 := Lib.hid (HG0.out.under hb HG0.out.lt)
  clear hb
  go_wp2_with (with_reducible refine wpList_load_row (o := ⟨some 22, _, _, _, _, _⟩) rfl 27 _ rfl (w.heap.size) rfl 27 (tpC t a) (0, 0) _ (HG0.out).raw11 Try.underlying27 rfl (by kernel_rfl) ?_)
  refine (rlight_any13 t a w1 (HT.out _ HB.out)).mono ?_
  rw [HQ.out]
  rintro e w2 ⟨rfl, hb⟩
  have HB := Lib.hid (HB.out.trans (hb.mono HB.out.size))
  have HG0 := Lib.hid (HG0.out.under hb HG0.out.lt)
  clear hb
  cases q with
  | false =>
    go_wp2
    go_ret
    exact ⟨by first | rfl | simp, HB.out⟩
  | true =>
    by_cases zn : 100 < n
    · have x1_ : (100 : Int) < n := by omega
      go_wp2
      go_ret
      exact ⟨by first | rfl | simp, HB.out⟩
    have x1_ : ¬ (100 : Int) < n := by omega
    by_cases za : y < 0
    · skip
      go_wp2
      go_ret
      exact ⟨by first | rfl | simp, HB.out⟩
    by_cases zb : 1099511627776 < y
    · skip
      go_wp2
      go_ret
      exact ⟨by first | rfl | simp, HB.out⟩
    have HY0 := Lib.hid (show 0 ≤ y ∧ y ≤ 1099511627776 by omega)
    have HB0 := HB
    have HN6 := Lib.hid (show n ≤ 100 by omega)
    obtain ⟨wb, hwb⟩ : ∃ wb, wb = w2 := ⟨_, rfl⟩
    subst hwb
    go_upto_region 5 with fail
    clear zn za zb
    go_wp2
    go_loopg [11] n (fun kk v wl => ∃ (i q : Nat), i ≤ n ∧ n - i ≤ kk ∧ v = .int .i64 i ∧ Hid (((path.take i).map (·.edge)).Nodup) ∧ wl = wb.drewN q)
    case atStart => exact ⟨0, 0, by omega, by omega, rfl, Lib.hid (by simp), rfl⟩
    case round =>
      obtain ⟨i, q, hi, hik, rfl, HND, hwr⟩ := hrel
      have HBD := Lib.hid (show Below wb.heap.size wb wr from by rw [hwr]; exact below_draws (Below.refl _ _) q)
      have HB := Lib.hid (HB0.out.trans (HBD.out.mono HB0.out.size))
      have HWR := Lib.hid hwr
      clear hwr
      by_cases hlt : i < n
      rotate_left
      · obtain rfl : i = n := by omega
        have x1 : ¬ (i : Int) < i := by omega
        have HDU := Lib.hid (show (path.map (·.edge)).Nodup from by have h_ := HND.out; rw [List.take_of_length_le (by rw [HL.out]; exact Nat.le_refl _)] at h_; exact h_)
        have HG0 := Lib.hid (HG0.out.under HBD.out HG0.out.lt)
        clear HND HWR hi hik hlt HBD HB0
        go_upto_region 13 with fail
        clear x1
        obtain ⟨n, hn_⟩ : ∃ n, n = i := ⟨_, rfl⟩
        subst hn_
        have HN := HN6
        clear HN6
        obtain ⟨rP, hrP⟩ : ∃ r, (offE t path m).1 = r := ⟨_, rfl⟩
        obtain ⟨rE, hrE⟩ : ∃ r, (offE t path m).2 = r := ⟨_, rfl⟩
        have HR := Lib.hid (Prod.ext hrP hrE : offE t path m = (rP, rE))
        clear hrP hrE
        have hk := opl_off t a path A n c m wr (HT.out _ HB.out) HQ.out HCJ.out (HP.out _ HB.out) HN.out HNC.out HMB.out
        rw [HR.out] at hk
        have HK := Lib.hid hk
        clear hk
        go_wp2_with (with_reducible refine wpList_load_row (o := ⟨some 67, _, _, _, _, _⟩) rfl 27 _ rfl (w.heap.size) rfl 27 (tpC t a) (0, 0) _ (HG0.out).raw11 Try.underlying27 rfl (by kernel_rfl) ?_)
        refine HK.out.mono ?_
        rintro e x1 ⟨rfl, hb⟩
        clear HK
        have hm : Has (x1.alloc (.cells #[.int .i64 0, .int .i64 0, .bool false] 29)) x1.heap.size 29 #[.int .i64 0, .int .i64 0, .bool false] := Has.made _ _ _
        have HM := Lib.hid hm
        obtain ⟨u1, hu1⟩ : ∃ u_, (x1.alloc (.cells #[.int .i64 0, .int .i64 0, .bool false] 29)).setRow x1.heap.size (psA rP) = u_ := ⟨_, rfl⟩
        have hbu : Below x1.heap.size x1 u1 := by rw [← hu1]; exact below_row (g := x1.heap.size) ((Below.refl _ _).alloc (Nat.le_refl _) _) (Nat.le_refl _) _
        have HX1 := Lib.hid (show Has u1 x1.heap.size 29 (psA rP) from by rw [← hu1]; exact has_row11 hm _)
        have hstep := hb.trans (hbu.mono hb.size)
        have HB := Lib.hid (HB.out.trans (hstep.mono HB.out.size))
        have HG0 := Lib.hid (HG0.out.under hstep HG0.out.lt)
        have HUU := Lib.hid hu1
        clear hm hbu hb hstep hu1
        go_upto_region 14 with (with_reducible refine wpList_store_rowTo (o := ⟨none, _, _, _, _, _⟩) rfl 29 _ _ rfl rfl (x1.heap.size) (psA rP) rfl rfl 29 _ (HM.out).raw11 (by kernel_rfl) (by kernel_rfl) (by kernel_rfl) ?_)
        rw [HUU.out]
        clear HUU HM
        by_cases zr : rE = 0
        rotate_left
        · have x1_ : (rE != 0) = true := by simp [zr]
          have x2_ : (rE == 0) = false := by simp [zr]
          have HK := Lib.hid (otp_length_w t a path A n c u1 (HT.out _ HB.out) (HP.out _ HB.out) (by have := HN.out; omega) HQ.out)
          clear zr
          go_wp2_with (with_reducible refine wpList_load_row (o := ⟨some 74, _, _, _, _, _⟩) rfl 27 _ rfl (w.heap.size) rfl 27 (tpC t a) (0, 0) _ (HG0.out).raw11 Try.underlying27 rfl (by kernel_rfl) ?_)
          refine HK.out.mono ?_
          rintro e x3 ⟨N, E, rfl, hb⟩
          clear HK
          have HB := Lib.hid (HB.out.trans (hb.mono HB.out.size))
          have HG0 := Lib.hid (HG0.out.under hb HG0.out.lt)
          have HX1 := Lib.hid (HX1.out.under hb HX1.out.lt)
          clear hb
          go_wp2
          go_ret
          exact ⟨by first | rfl | simp, HB.out⟩
        subst zr
        have HO := Lib.hid (off_ok14 (show (offE t path m).2 = 0 from by rw [HR.out]))
        have HED := Lib.hid (check_routes HO.out.1).1
        have H2 := Lib.hid HO.out.2.1
        have H4 := Lib.hid (len_nodup14 H2.out)
        have hk := otp_length t a path A n c u1 (HT.out _ HB.out) (HP.out _ HB.out) (by have := HN.out; omega) HQ.out HED.out
        rw [H2.out, H4.out] at hk
        have HK := Lib.hid hk
        clear hk
        obtain ⟨sv, hsv⟩ : ∃ s, sumT t path = s := ⟨_, rfl⟩
        have HSV := Lib.hid hsv
        rw [hsv] at HK HO
        clear hsv
        go_wp2_with (with_reducible refine wpList_load_row (o := ⟨some 74, _, _, _, _, _⟩) rfl 27 _ rfl (w.heap.size) rfl 27 (tpC t a) (0, 0) _ (HG0.out).raw11 Try.underlying27 rfl (by kernel_rfl) ?_)
        refine HK.out.mono ?_
        rintro e x2 ⟨rfl, hb⟩
        clear HK
        have HB := Lib.hid (HB.out.trans (hb.mono HB.out.size))
        have HG0 := Lib.hid (HG0.out.under hb HG0.out.lt)
        have HX1 := Lib.hid (HX1.out.under hb HX1.out.lt)
        clear hb
        have hwr1 : IntKind.i64.wrap (m + y) = m + y := by have h_ := HO.out; have h2_ := HY0.out; rw [IntKind.wrap_i64]; omega
        by_cases zs : sv < m + y
        · skip
          go_wp2
          go_ret
          exact ⟨by first | rfl | simp, HB.out⟩
        have HPA := Lib.hid (placeAlong (t := t) (path := path) (n := m) (m := y) HY0.out.1 HY0.out.2 (show (offE t path m).2 = 0 from by rw [HR.out]) H2.out (by rw [HSV.out]; omega))
        rw [HR.out] at HPA
        obtain ⟨qP, hqP⟩ : ∃ r, (walkE t rP y).1 = r := ⟨_, rfl⟩
        obtain ⟨qE, hqE⟩ : ∃ r, (walkE t rP y).2 = r := ⟨_, rfl⟩
        have HW := Lib.hid (Prod.ext hqP hqE : walkE t rP y = (qP, qE))
        have HPA2 := Lib.hid (show qE = 140 ∨ (qE = 0 ∧ (offE t path (m + y)).2 = 0 ∧ (offE t path (m + y)).1 = qP) from by have h_ := HPA.out; simp only [hqP, hqE] at h_; exact h_)
        clear hqP hqE HPA
        go_upto_region 17 with fail
        clear zs
        have hk := opl_walk t a rP y x2 (HT.out _ HB.out) HQ.out HCJ.out (by have := HY0.out; omega)
        rw [HW.out] at hk
        have HK := Lib.hid hk
        clear hk
        go_wp2_with (first | (with_reducible refine wpList_load_row (o := ⟨some 93, _, _, _, _, _⟩) rfl 27 _ rfl (w.heap.size) rfl 27 (tpC t a) (0, 0) _ (HG0.out).raw11 Try.underlying27 rfl (by kernel_rfl) ?_) | (with_reducible refine wpList_load_row (o := ⟨some 94, _, _, _, _, _⟩) rfl 29 _ rfl (x1.heap.size) rfl 29 (psA rP) (0, 0) _ (HX1.out).raw11 Try.underlying29 rfl (by kernel_rfl) ?_))
        refine HK.out.mono ?_
        rintro e x3 ⟨rfl, hb⟩
        clear HK HX1
        have hm : Has (x3.alloc (.cells #[.int .i64 0, .int .i64 0, .bool false] 29)) x3.heap.size 29 #[.int .i64 0, .int .i64 0, .bool false] := Has.made _ _ _
        have HM := Lib.hid hm
        obtain ⟨u3, hu3⟩ : ∃ u_, (x3.alloc (.cells #[.int .i64 0, .int .i64 0, .bool false] 29)).setRow x3.heap.size (psA qP) = u_ := ⟨_, rfl⟩
        have hbu : Below x3.heap.size x3 u3 := by rw [← hu3]; exact below_row (g := x3.heap.size) ((Below.refl _ _).alloc (Nat.le_refl _) _) (Nat.le_refl _) _
        have HX3 := Lib.hid (show Has u3 x3.heap.size 29 (psA qP) from by rw [← hu3]; exact has_row11 hm _)
        have hstep := hb.trans (hbu.mono hb.size)
        have HB := Lib.hid (HB.out.trans (hstep.mono HB.out.size))
        have HG0 := Lib.hid (HG0.out.under hstep HG0.out.lt)
        have HUU := Lib.hid hu3
        clear hm hbu hb hstep hu3
        go_upto_region 18 with (with_reducible refine wpList_store_rowTo (o := ⟨none, _, _, _, _, _⟩) rfl 29 _ _ rfl rfl (x3.heap.size) (psA qP) rfl rfl 29 _ (HM.out).raw11 (by kernel_rfl) (by kernel_rfl) (by kernel_rfl) ?_)
        rw [HUU.out]
        clear HUU HM
        by_cases zq : qE = 0
        rotate_left
        · have hq140 : qE = 140 := by rcases HPA2.out with h_ | h_ <;> omega
          subst hq140
          clear zq
          go_wp2
          go_ret
          exact ⟨by first | rfl | simp, HB.out⟩
        subst zq
        have HE := Lib.hid (show offE t path (m + y) = (qP, 0) from (HPA2.out.elim (fun h_ => absurd h_ (by decide)) (fun h_ => Prod.ext h_.2.2 h_.2.1)))
        have hk := opl_off t a path A n c (m + y) u3 (HT.out _ HB.out) HQ.out HCJ.out (HP.out _ HB.out) HN.out HNC.out (by have h_ := HO.out; have h2_ := HY0.out; omega)
        rw [HE.out] at hk
        have HK := Lib.hid hk
        clear hk
        go_upto_region 20 with fail
        go_wp2_with (with_reducible refine wpList_load_row (o := ⟨some 104, _, _, _, _, _⟩) rfl 27 _ rfl (w.heap.size) rfl 27 (tpC t a) (0, 0) _ (HG0.out).raw11 Try.underlying27 rfl (by kernel_rfl) ?_)
        refine HK.out.mono ?_
        rintro e x4 ⟨rfl, hb⟩
        clear HK
        have hm : Has (x4.alloc (.cells #[.int .i64 0, .int .i64 0, .bool false] 29)) x4.heap.size 29 #[.int .i64 0, .int .i64 0, .bool false] := Has.made _ _ _
        have HM := Lib.hid hm
        obtain ⟨u4, hu4⟩ : ∃ u_, (x4.alloc (.cells #[.int .i64 0, .int .i64 0, .bool false] 29)).setRow x4.heap.size (psA qP) = u_ := ⟨_, rfl⟩
        have hbu : Below x4.heap.size x4 u4 := by rw [← hu4]; exact below_row (g := x4.heap.size) ((Below.refl _ _).alloc (Nat.le_refl _) _) (Nat.le_refl _) _
        have HX4 := Lib.hid (show Has u4 x4.heap.size 29 (psA qP) from by rw [← hu4]; exact has_row11 hm _)
        have hstep := hb.trans (hbu.mono hb.size)
        have HB := Lib.hid (HB.out.trans (hstep.mono HB.out.size))
        have HG0 := Lib.hid (HG0.out.under hstep HG0.out.lt)
        have HX3 := Lib.hid (HX3.out.under hstep HX3.out.lt)
        have HUU := Lib.hid hu4
        clear hm hbu hb hstep hu4
        go_upto_region 21 with (with_reducible refine wpList_store_rowTo (o := ⟨none, _, _, _, _, _⟩) rfl 29 _ _ rfl rfl (x4.heap.size) (psA qP) rfl rfl 29 _ (HM.out).raw11 (by kernel_rfl) (by kernel_rfl) (by kernel_rfl) ?_)
        rw [HUU.out]
        clear HUU HM
        have q1 := eq_ps14 qP qP
        rw [(eqP_iff qP qP).2 rfl] at q1
        go_wp2_with (first | ((with_reducible refine at_slot11 115 ?_); refine wpList_load_rowW11 (o := ⟨some 115, _, _, _, _, _⟩) 29 _ rfl (by kernel_rfl) (x3.heap.size) rfl 29 (psA qP) (0, 0) _ (HX3.out).raw11 Try.underlying29 rfl (by kernel_rfl) ?_) | ((with_reducible refine at_slot11 116 ?_); refine wpList_load_rowW11 (o := ⟨some 116, _, _, _, _, _⟩) 29 _ rfl (by kernel_rfl) (x4.heap.size) rfl 29 (psA qP) (0, 0) _ (HX4.out).raw11 Try.underlying29 rfl (by kernel_rfl) ?_))
        go_ret
        exact ⟨by first | rfl | simp, HB.out⟩
      obtain ⟨x, hx⟩ : ∃ x, path[i]? = some x := ⟨_, List.getElem?_eq_getElem (by rw [HL.out]; omega)⟩
      have HX := Lib.hid hx
      obtain ⟨bk, off, rfl, -, -⟩ := (HP.out wr HB.out).step hx
      have x1 : (i : Int) < n := by omega
      have HLT := Lib.hid hlt
      clear hx
      obtain ⟨w3, hw3⟩ : ∃ w3, w3 = wr := ⟨_, rfl⟩
      subst hw3
      obtain ⟨k1, hk1⟩ : ∃ k1, k1 = gk := ⟨_, rfl⟩
      subst hk1
      go_upto_region 8 with fail
      clear x1
      go_wp2
      go_loopg [12] i (fun kk v wl => ∃ (k q2 : Nat), k ≤ i ∧ i - k ≤ kk ∧ v = .int .i64 k ∧ Hid (∀ m y, m < k → path[m]? = some y → y.edge ≠ x.edge) ∧ wl = w3.drewN q2)
      case atStart => exact ⟨0, 0, by omega, by omega, rfl, Lib.hid (fun m y h => absurd h (by omega)), rfl⟩
      case round =>
        obtain ⟨k, q2, hk, hkk, rfl, HNE, hw4⟩ := hrel
        have HB4 := Lib.hid (show Below w.heap.size w wr from by rw [hw4]; exact below_draws HB.out q2)
        have HW4 := Lib.hid hw4
        clear hw4
        by_cases hkl : k < i
        rotate_left
        · obtain rfl : k = i := by omega
          have x2 : ¬ (k : Int) < k := by omega
          clear hk hkk hkl
          go_wp2
          go_roundg (k1 - 1)
          case measure => omega
          case rel => exact ⟨k + 1, q + q2, by omega, by omega, by go_num, Lib.hid (nodup_take14 HX.out HND.out HNE.out), by rw [HW4.out, HWR.out, World.drewN_drewN]⟩
        obtain ⟨y, hy⟩ : ∃ y, path[k]? = some y := ⟨_, List.getElem?_eq_getElem (by rw [HL.out]; omega)⟩
        have HY := Lib.hid hy
        obtain ⟨b_, o_, e_, e0, -⟩ := (HP.out wr HB4.out).step hy
        injection e_ with e_
        injection e_ with e1_ e2_ _
        subst e1_ e2_
        obtain ⟨b_, o_, e_, f0, -⟩ := (HP.out wr HB4.out).step HX.out
        injection e_ with e_
        injection e_ with e1_ e2_ _
        subst e1_ e2_
        obtain ⟨ye, hye⟩ : ∃ e, y.edge = e := ⟨_, rfl⟩
        obtain ⟨xe, hxe⟩ : ∃ e, x.edge = e := ⟨_, rfl⟩
        have HYE := Lib.hid hye
        have HXE := Lib.hid hxe
        rw [hye] at e0
        rw [hxe] at f0
        clear hy hye hxe
        have y0 : (0 : Int) ≤ k := by omega
        have y1 : (k : Int) < n := by omega
        have y2 : (0 : Int) ≤ i := by omega
        have y3 : (i : Int) < n := by omega
        have y4 : (k : Int) < i := by omega
        by_cases hee : ye = xe
        · subst hee
          go_upto_region 11 with fail
          go_quiet (fail)
          go_wp2
          go_ret
          exact ⟨by first | rfl | simp, by first | exact below_draws HB4.out _ | (rw [World.drewN_drewN]; exact below_draws HB4.out _)⟩
        have g1 : (ye == xe) = false := by simp [hee]
        have HEE := Lib.hid (show y.edge ≠ x.edge from by rw [HYE.out, HXE.out]; exact hee)
        clear hee
        go_upto_region 11 with fail
        go_quiet (fail)
        go_wp2
        go_roundg (gk - 1)
        case measure => omega
        case rel =>
          refine ⟨k + 1, _, by omega, by omega, by go_num, Lib.hid (fun m y' hm hy' => ?_), by first | (rw [HW4.out, World.drewN_drewN]) | (rw [HW4.out]; rfl) | (rw [HW4.out]; simp only [World.drewN_drewN]; rfl)⟩
          by_cases hmk : m = k
          · subst hmk
            rw [HY.out] at hy'
            injection hy' with hy'
            rw [← hy']
            exact HEE.out
          · exact HNE.out m y' (by omega) hy'

end Go.Proofs.Ytfchmjldhefmkaa
