/-
  linesidelaw14: PlaceSum.
-/
import Derived.Test.YtfchmjldhefmkaaLawAwake14

import Derived.BigQuiet

import Derived.IntWalk

namespace Go.Proofs.Ytfchmjldhefmkaa

open Go.RowKit

open Go.Great

set_option maxRecDepth 100000 in
set_option maxHeartbeats 8000000 in
theorem placeSum_walk (t : Tp3) (a : TpA) (p : Ps3) (x y : Int) (w : World) (ht : TopR w t a) (hcj : t.joints.length ≤ a.cj) (_ : (Lit.int .i64 x).wf = true) (_ : (Lit.int .i64 y).wf = true) :
    Calls Try.prog 5 #[.agg (tpC t a), .agg (psA p), .int .i64 x, .int .i64 y] w fun e w' => e = .returned (.bool true) ∧ Below w.heap.size w w' := by
  obtain ⟨wa, hwa⟩ : ∃ wa, (w.alloc (.cells (tpC t a) 27)).alloc (.cells (psA p) 29) = wa := ⟨_, rfl⟩
  have hbwa : Below w.heap.size w wa := by rw [← hwa]; exact ((Below.refl _ _).alloc (Nat.le_refl _) _).alloc (by simp) _
  have h0 : Has wa (w.heap.size) 27 (tpC t a) := by rw [← hwa]; exact ((Has.made _ _ _).beside _)
  have h1 : Has wa (w.heap.size + 1) 29 (psA p) := by rw [← hwa]; exact (has_at11 (by simp))
  have HWA := Lib.hid hwa; have HBWA := Lib.hid hbwa
  have HT := Lib.hid (fun W (hW : Below w.heap.size w W) => ht.under hW)
  have HCJ := Lib.hid hcj
  have HG0 := Lib.hid h0
  have HG1 := Lib.hid h1
  clear hwa hbwa hcj ht h0 h1
  obtain ⟨q, hq⟩ : ∃ q, lightT t = q := ⟨_, rfl⟩
  have HQ := Lib.hid hq
  clear hq
  go_enter Try.func5, Try.ntmps5
  go_upto_region 1 with fail
  rw [HWA.out]
  clear HWA
  go_wp2_with fail
  refine (awake14_any wa).mono ?_
  rintro e w1 ⟨rfl, hb⟩
  have HB := HBWA
  clear HBWA
  have HB := Lib.hid (HB.out.trans (hb.mono HB.out.size))
  have HG0 := Lib.hid (HG0.out.under hb HG0.out.lt)
  have HG1 := Lib.hid (HG1.out.under hb HG1.out.lt)
  clear hb
  go_wp2_with (with_reducible refine wpList_load_row (o := ⟨some 18, _, _, _, _, _⟩) rfl 27 _ rfl (w.heap.size) rfl 27 (tpC t a) (0, 0) _ (HG0.out).raw11 Try.underlying27 rfl (by kernel_rfl) ?_)
  refine (rlight_any13 t a w1 (HT.out _ HB.out)).mono ?_
  rw [HQ.out]
  rintro e w2 ⟨rfl, hb⟩
  have HB := Lib.hid (HB.out.trans (hb.mono HB.out.size))
  have HG0 := Lib.hid (HG0.out.under hb HG0.out.lt)
  have HG1 := Lib.hid (HG1.out.under hb HG1.out.lt)
  clear hb
  cases q with
  | false =>
    go_wp2
    go_ret
    exact ⟨by first | rfl | simp, HB.out⟩
  | true =>
    by_cases za : x < 0
    · skip
      go_wp2
      go_ret
      exact ⟨by first | rfl | simp, HB.out⟩
    by_cases zb : y < 0
    · skip
      go_wp2
      go_ret
      exact ⟨by first | rfl | simp, HB.out⟩
    by_cases zc : 1099511627776 < x
    · skip
      go_wp2
      go_ret
      exact ⟨by first | rfl | simp, HB.out⟩
    by_cases zd : 1099511627776 < y
    · skip
      go_wp2
      go_ret
      exact ⟨by first | rfl | simp, HB.out⟩
    have HXY := Lib.hid (show 0 ≤ x ∧ 0 ≤ y ∧ x ≤ 1099511627776 ∧ y ≤ 1099511627776 by omega)
    have hwr1 : IntKind.i64.wrap (x + y) = x + y := by rw [IntKind.wrap_i64]; omega
    have HS := Lib.hid (walkE_sum (t := t) (p := p) HXY.out.1 HXY.out.2.1)
    go_upto_region 5 with fail
    clear za zb zc zd
    obtain ⟨rP, hrP⟩ : ∃ r, (walkE t p (x + y)).1 = r := ⟨_, rfl⟩
    obtain ⟨rE, hrE⟩ : ∃ r, (walkE t p (x + y)).2 = r := ⟨_, rfl⟩
    have HR := Lib.hid (show walkE t p (x + y) = (rP, rE) from Prod.ext hrP hrE)
    rw [HR.out] at HS
    clear hrP hrE
    have hk := opl_walk t a p (x + y) w2 (HT.out _ HB.out) HQ.out HCJ.out (by have := HXY.out; omega)
    rw [HR.out] at hk
    have HK := Lib.hid hk
    clear hk
    go_wp2_with (first | (with_reducible refine wpList_load_row (o := ⟨some 44, _, _, _, _, _⟩) rfl 27 _ rfl (w.heap.size) rfl 27 (tpC t a) (0, 0) _ (HG0.out).raw11 Try.underlying27 rfl (by kernel_rfl) ?_) | (with_reducible refine wpList_load_row (o := ⟨some 45, _, _, _, _, _⟩) rfl 29 _ rfl (w.heap.size + 1) rfl 29 (psA p) (0, 0) _ (HG1.out).raw11 Try.underlying29 rfl (by kernel_rfl) ?_))
    refine HK.out.mono ?_
    rintro e x1 ⟨rfl, hb⟩
    clear HK hwr1
    have hm : Has (x1.alloc (.cells #[.int .i64 0, .int .i64 0, .bool false] 29)) x1.heap.size 29 #[.int .i64 0, .int .i64 0, .bool false] := Has.made _ _ _
    have HM := Lib.hid hm
    obtain ⟨u1, hu1⟩ : ∃ u_, (x1.alloc (.cells #[.int .i64 0, .int .i64 0, .bool false] 29)).setRow x1.heap.size (psA rP) = u_ := ⟨_, rfl⟩
    have hbu : Below x1.heap.size x1 u1 := by rw [← hu1]; exact below_row (g := x1.heap.size) ((Below.refl _ _).alloc (Nat.le_refl _) _) (Nat.le_refl _) _
    have HX1 := Lib.hid (show Has u1 x1.heap.size 29 (psA rP) from by rw [← hu1]; exact has_row11 hm _)
    have hstep := hb.trans (hbu.mono hb.size)
    have HB := Lib.hid (HB.out.trans (hstep.mono HB.out.size))
    have HG0 := Lib.hid (HG0.out.under hstep HG0.out.lt)
    have HG1 := Lib.hid (HG1.out.under hstep HG1.out.lt)
    have HUU := Lib.hid hu1
    clear hm hbu hb hstep hu1
    go_upto_region 6 with (with_reducible refine wpList_store_rowTo (o := ⟨none, _, _, _, _, _⟩) rfl 29 _ _ rfl rfl (x1.heap.size) (psA rP) rfl rfl 29 _ (HM.out).raw11 (by kernel_rfl) (by kernel_rfl) (by kernel_rfl) ?_)
    rw [HUU.out]
    clear HUU HM
    by_cases zr : rE = 0
    rotate_left
    · have HZ := Lib.hid (HS.out.1 zr)
      obtain rfl := HZ.out
      have f0 : u1.cell? ⟨x1.heap.size, 0, none⟩ = some (.int .i64 0) := HX1.out.cell 0
      have f1 : u1.cell? ⟨x1.heap.size, 1, none⟩ = some (.int .i64 0) := HX1.out.cell 1
      have f2 : u1.cell? ⟨x1.heap.size, 2, none⟩ = some (.bool false) := HX1.out.cell 2
      have q1 := eq_ps14 zeroP zeroP
      rw [show eqP zeroP zeroP = true from by kernel_rfl] at q1
      unfold zeroP psA at q1
      have x1_ : (rE != 0) = true := by simp [zr]
      clear HZ HS
      go_wp2
      go_ret
      exact ⟨by first | rfl | simp, HB.out⟩
    subst zr
    obtain ⟨HS1, HS2, HS3⟩ := HS.out.2 rfl
    obtain ⟨yP, hyP⟩ : ∃ r, (walkE t p x).1 = r := ⟨_, rfl⟩
    rw [hyP] at HS2
    have HY := Lib.hid (show walkE t p x = (yP, 0) from Prod.ext hyP HS1)
    have HY2 := Lib.hid (show walkE t yP y = (rP, 0) from HS2)
    have HRR := Lib.hid (show rightP t rP = true from HS3)
    clear HS HS1 HS2 HS3 hyP HR
    have hk := opl_walk t a p x u1 (HT.out _ HB.out) HQ.out HCJ.out (by have := HXY.out; omega)
    rw [HY.out] at hk
    have HK := Lib.hid hk
    clear hk
    go_upto_region 8 with fail
    go_wp2_with (first | (with_reducible refine wpList_load_row (o := ⟨some 58, _, _, _, _, _⟩) rfl 27 _ rfl (w.heap.size) rfl 27 (tpC t a) (0, 0) _ (HG0.out).raw11 Try.underlying27 rfl (by kernel_rfl) ?_) | (with_reducible refine wpList_load_row (o := ⟨some 59, _, _, _, _, _⟩) rfl 29 _ rfl (w.heap.size + 1) rfl 29 (psA p) (0, 0) _ (HG1.out).raw11 Try.underlying29 rfl (by kernel_rfl) ?_))
    refine HK.out.mono ?_
    rintro e x2 ⟨rfl, hb⟩
    clear HK
    have hm : Has (x2.alloc (.cells #[.int .i64 0, .int .i64 0, .bool false] 29)) x2.heap.size 29 #[.int .i64 0, .int .i64 0, .bool false] := Has.made _ _ _
    have HM := Lib.hid hm
    obtain ⟨u2, hu2⟩ : ∃ u_, (x2.alloc (.cells #[.int .i64 0, .int .i64 0, .bool false] 29)).setRow x2.heap.size (psA yP) = u_ := ⟨_, rfl⟩
    have hbu : Below x2.heap.size x2 u2 := by rw [← hu2]; exact below_row (g := x2.heap.size) ((Below.refl _ _).alloc (Nat.le_refl _) _) (Nat.le_refl _) _
    have HX2 := Lib.hid (show Has u2 x2.heap.size 29 (psA yP) from by rw [← hu2]; exact has_row11 hm _)
    have hstep := hb.trans (hbu.mono hb.size)
    have HB := Lib.hid (HB.out.trans (hstep.mono HB.out.size))
    have HG0 := Lib.hid (HG0.out.under hstep HG0.out.lt)
    have HG1 := Lib.hid (HG1.out.under hstep HG1.out.lt)
    have HX1 := Lib.hid (HX1.out.under hstep HX1.out.lt)
    have HUU := Lib.hid hu2
    clear hm hbu hb hstep hu2
    go_upto_region 9 with (with_reducible refine wpList_store_rowTo (o := ⟨none, _, _, _, _, _⟩) rfl 29 _ _ rfl rfl (x2.heap.size) (psA yP) rfl rfl 29 _ (HM.out).raw11 (by kernel_rfl) (by kernel_rfl) (by kernel_rfl) ?_)
    rw [HUU.out]
    clear HUU HM
    have hk := opl_walk t a yP y u2 (HT.out _ HB.out) HQ.out HCJ.out (by have := HXY.out; omega)
    rw [HY2.out] at hk
    have HK := Lib.hid hk
    clear hk
    go_wp2_with (first | (with_reducible refine wpList_load_row (o := ⟨some 65, _, _, _, _, _⟩) rfl 27 _ rfl (w.heap.size) rfl 27 (tpC t a) (0, 0) _ (HG0.out).raw11 Try.underlying27 rfl (by kernel_rfl) ?_) | (with_reducible refine wpList_load_row (o := ⟨some 66, _, _, _, _, _⟩) rfl 29 _ rfl (x2.heap.size) rfl 29 (psA yP) (0, 0) _ (HX2.out).raw11 Try.underlying29 rfl (by kernel_rfl) ?_))
    refine HK.out.mono ?_
    rintro e x3 ⟨rfl, hb⟩
    clear HK HX2
    have hm : Has (x3.alloc (.cells #[.int .i64 0, .int .i64 0, .bool false] 29)) x3.heap.size 29 #[.int .i64 0, .int .i64 0, .bool false] := Has.made _ _ _
    have HM := Lib.hid hm
    obtain ⟨u3, hu3⟩ : ∃ u_, (x3.alloc (.cells #[.int .i64 0, .int .i64 0, .bool false] 29)).setRow x3.heap.size (psA rP) = u_ := ⟨_, rfl⟩
    have hbu : Below x3.heap.size x3 u3 := by rw [← hu3]; exact below_row (g := x3.heap.size) ((Below.refl _ _).alloc (Nat.le_refl _) _) (Nat.le_refl _) _
    have HX3 := Lib.hid (show Has u3 x3.heap.size 29 (psA rP) from by rw [← hu3]; exact has_row11 hm _)
    have hstep := hb.trans (hbu.mono hb.size)
    have HB := Lib.hid (HB.out.trans (hstep.mono HB.out.size))
    have HG0 := Lib.hid (HG0.out.under hstep HG0.out.lt)
    have HG1 := Lib.hid (HG1.out.under hstep HG1.out.lt)
    have HX1 := Lib.hid (HX1.out.under hstep HX1.out.lt)
    have HUU := Lib.hid hu3
    clear hm hbu hb hstep hu3
    go_upto_region 10 with (with_reducible refine wpList_store_rowTo (o := ⟨none, _, _, _, _, _⟩) rfl 29 _ _ rfl rfl (x3.heap.size) (psA rP) rfl rfl 29 _ (HM.out).raw11 (by kernel_rfl) (by kernel_rfl) (by kernel_rfl) ?_)
    rw [HUU.out]
    clear HUU HM
    have hk := opl_right t a rP u3 (HT.out _ HB.out) HQ.out HCJ.out
    rw [HRR.out] at hk
    have HK := Lib.hid hk
    clear hk
    have q1 := eq_ps14 rP rP
    rw [(eqP_iff rP rP).2 rfl] at q1
    go_wp2_with (first | ((with_reducible refine at_slot11 78 ?_); refine wpList_load_rowW11 (o := ⟨some 78, _, _, _, _, _⟩) 29 _ rfl (by kernel_rfl) (x3.heap.size) rfl 29 (psA rP) (0, 0) _ (HX3.out).raw11 Try.underlying29 rfl (by kernel_rfl) ?_) | ((with_reducible refine at_slot11 79 ?_); refine wpList_load_rowW11 (o := ⟨some 79, _, _, _, _, _⟩) 29 _ rfl (by kernel_rfl) (x1.heap.size) rfl 29 (psA rP) (0, 0) _ (HX1.out).raw11 Try.underlying29 rfl (by kernel_rfl) ?_) | ((with_reducible refine at_slot11 83 ?_); refine wpList_load_rowW11 (o := ⟨some 83, _, _, _, _, _⟩) 27 _ rfl (by kernel_rfl) (w.heap.size) rfl 27 (tpC t a) (0, 0) _ (HG0.out).raw11 Try.underlying27 rfl (by kernel_rfl) ?_) | ((with_reducible refine at_slot11 84 ?_); refine wpList_load_rowW11 (o := ⟨some 84, _, _, _, _, _⟩) 29 _ rfl (by kernel_rfl) (x1.heap.size) rfl 29 (psA rP) (0, 0) _ (HX1.out).raw11 Try.underlying29 rfl (by kernel_rfl) ?_))
    refine HK.out.mono ?_
    rintro e x4 ⟨rfl, hb⟩
    have HBF := Lib.hid (HB.out.trans (hb.mono HB.out.size))
    clear hb HK
    go_wp2
    go_ret
    exact ⟨by first | rfl | simp, HBF.out⟩

end Go.Proofs.Ytfchmjldhefmkaa
