/-
  linesidelaw14: PlaceOns.
-/
import Derived.Test.YtfchmjldhefmkaaLawAwake14

import Derived.BigQuiet

import Derived.IntWalk

namespace Go.Proofs.Ytfchmjldhefmkaa

open Go.RowKit

open Go.Great

set_option maxRecDepth 100000 in
set_option maxHeartbeats 8000000 in
theorem placeOns_walk (t : Tp3) (a : TpA) (A : Option Addr) (n c : Nat) (path : List St3) (p : Ps3) (m : Int) (w : World) (ht : TopR w t a) (hcj : t.joints.length ≤ a.cj) (hp : SlO stC 2 w A n c path) (hnc : n ≤ c) (hwm : (Lit.int .i64 m).wf = true) :
    Calls Try.prog 4 #[.agg (tpC t a), .slice A n c, .agg (psA p), .int .i64 m] w fun e w' => e = .returned (.bool true) ∧ Below w.heap.size w w' := by
  obtain ⟨wa, hwa⟩ : ∃ wa, (w.alloc (.cells (tpC t a) 27)).alloc (.cells (psA p) 29) = wa := ⟨_, rfl⟩
  have hbwa : Below w.heap.size w wa := by rw [← hwa]; exact ((Below.refl _ _).alloc (Nat.le_refl _) _).alloc (by simp) _
  have h0 : Has wa (w.heap.size) 27 (tpC t a) := by rw [← hwa]; exact ((Has.made _ _ _).beside _)
  have h1 : Has wa (w.heap.size + 1) 29 (psA p) := by rw [← hwa]; exact (has_at11 (by simp))
  have HWA := Lib.hid hwa; have HBWA := Lib.hid hbwa
  have HT := Lib.hid (fun W (hW : Below w.heap.size w W) => ht.under hW)
  have HCJ := Lib.hid hcj
  have HG0 := Lib.hid h0
  have HG1 := Lib.hid h1
  clear hwa hbwa hcj ht h0 h1
  have HP := Lib.hid (fun W (hW : Below w.heap.size w W) => hp.under hW)
  have HNC := Lib.hid hnc
  have HMB := Lib.hid (int_bounds11 hwm)
  clear hwm
  clear hp hnc
  obtain ⟨q, hq⟩ : ∃ q, lightT t = q := ⟨_, rfl⟩
  have HQ := Lib.hid hq
  clear hq
  go_enter Try.func4, Try.ntmps4
  go_upto_region 1 with fail
  rw [HWA.out]
  clear HWA
  go_wp2_with fail
  refine (awake14_any wa).mono ?_
  rintro e w1 ⟨rfl, hb⟩
  have HB := HBWA
  clear HBWA
  have HB := Lib.hid (HB.out.trans (hb.mono HB.out.size))
  have HG0 := Lib.hid (HG0.out.under hb HG0.out.lt)
  have HG1 := Lib.hid (HG1.out.under hb HG1.out.lt)
  clear hb
  go_wp2_with (with_reducible refine wpList_load_row (o := ⟨some 20, _, _, _, _, _⟩) rfl 27 _ rfl (w.heap.size) rfl 27 (tpC t a) (0, 0) _ (HG0.out).raw11 Try.underlying27 rfl (by kernel_rfl) ?_)
  refine (rlight_any13 t a w1 (HT.out _ HB.out)).mono ?_
  rw [HQ.out]
  rintro e w2 ⟨rfl, hb⟩
  have HB := Lib.hid (HB.out.trans (hb.mono HB.out.size))
  have HG0 := Lib.hid (HG0.out.under hb HG0.out.lt)
  have HG1 := Lib.hid (HG1.out.under hb HG1.out.lt)
  clear hb
  cases q with
  | false =>
    go_wp2
    go_ret
    exact ⟨by first | rfl | simp, HB.out⟩
  | true =>
    by_cases zn : 100 < n
    · have x1_ : (100 : Int) < n := by omega
      go_wp2
      go_ret
      exact ⟨by first | rfl | simp, HB.out⟩
    have x1_ : ¬ (100 : Int) < n := by omega
    have HN := Lib.hid (show n ≤ 100 by omega)
    go_upto_region 5 with fail
    clear x1_ zn
    obtain ⟨rN, hrN⟩ : ∃ r, (onE t path p).1 = r := ⟨_, rfl⟩
    obtain ⟨rE, hrE⟩ : ∃ r, (onE t path p).2 = r := ⟨_, rfl⟩
    obtain ⟨sP, hsP⟩ : ∃ r, (offE t path m).1 = r := ⟨_, rfl⟩
    obtain ⟨sE, hsE⟩ : ∃ r, (offE t path m).2 = r := ⟨_, rfl⟩
    have HR := Lib.hid (Prod.ext hrN hrE : onE t path p = (rN, rE))
    have HS := Lib.hid (Prod.ext hsP hsE : offE t path m = (sP, sE))
    clear hrN hrE hsP hsE
    have hk := opl_on t a path A n c p w2 (HT.out _ HB.out) HQ.out HCJ.out (HP.out _ HB.out) HN.out HNC.out
    rw [HR.out] at hk
    have HK := Lib.hid hk
    clear hk
    go_wp2_with (first | (with_reducible refine wpList_load_row (o := ⟨some 35, _, _, _, _, _⟩) rfl 27 _ rfl (w.heap.size) rfl 27 (tpC t a) (0, 0) _ (HG0.out).raw11 Try.underlying27 rfl (by kernel_rfl) ?_) | (with_reducible refine wpList_load_row (o := ⟨some 37, _, _, _, _, _⟩) rfl 29 _ rfl (w.heap.size + 1) rfl 29 (psA p) (0, 0) _ (HG1.out).raw11 Try.underlying29 rfl (by kernel_rfl) ?_))
    refine HK.out.mono ?_
    rintro e x1 ⟨rfl, hb⟩
    clear HK
    have HB := Lib.hid (HB.out.trans (hb.mono HB.out.size))
    have HG0 := Lib.hid (HG0.out.under hb HG0.out.lt)
    have HG1 := Lib.hid (HG1.out.under hb HG1.out.lt)
    clear hb
    have hk := ron_any t a path A n c p x1 (HT.out _ HB.out) HQ.out HCJ.out (HP.out _ HB.out) (by have := HN.out; omega)
    rw [HR.out] at hk
    have HK := Lib.hid hk
    clear hk
    go_wp2_with (first | (with_reducible refine wpList_load_row (o := ⟨some 42, _, _, _, _, _⟩) rfl 27 _ rfl (w.heap.size) rfl 27 (tpC t a) (0, 0) _ (HG0.out).raw11 Try.underlying27 rfl (by kernel_rfl) ?_) | (with_reducible refine wpList_load_row (o := ⟨some 44, _, _, _, _, _⟩) rfl 29 _ rfl (w.heap.size + 1) rfl 29 (psA p) (0, 0) _ (HG1.out).raw11 Try.underlying29 rfl (by kernel_rfl) ?_))
    refine HK.out.mono ?_
    rintro e x2 ⟨rfl, hb⟩
    clear HK
    have HB := Lib.hid (HB.out.trans (hb.mono HB.out.size))
    have HG0 := Lib.hid (HG0.out.under hb HG0.out.lt)
    have HG1 := Lib.hid (HG1.out.under hb HG1.out.lt)
    clear hb
    have hk := opl_off t a path A n c m x2 (HT.out _ HB.out) HQ.out HCJ.out (HP.out _ HB.out) HN.out HNC.out HMB.out
    rw [HS.out] at hk
    have HK := Lib.hid hk
    clear hk
    go_wp2_with (with_reducible refine wpList_load_row (o := ⟨some 49, _, _, _, _, _⟩) rfl 27 _ rfl (w.heap.size) rfl 27 (tpC t a) (0, 0) _ (HG0.out).raw11 Try.underlying27 rfl (by kernel_rfl) ?_)
    refine HK.out.mono ?_
    rintro e x3 ⟨rfl, hb⟩
    clear HK
    have hm : Has (x3.alloc (.cells #[.int .i64 0, .int .i64 0, .bool false] 29)) x3.heap.size 29 #[.int .i64 0, .int .i64 0, .bool false] := Has.made _ _ _
    have HM := Lib.hid hm
    obtain ⟨u3, hu3⟩ : ∃ u_, (x3.alloc (.cells #[.int .i64 0, .int .i64 0, .bool false] 29)).setRow x3.heap.size (psA sP) = u_ := ⟨_, rfl⟩
    have hbu : Below x3.heap.size x3 u3 := by rw [← hu3]; exact below_row (g := x3.heap.size) ((Below.refl _ _).alloc (Nat.le_refl _) _) (Nat.le_refl _) _
    have HX3 := Lib.hid (show Has u3 x3.heap.size 29 (psA sP) from by rw [← hu3]; exact has_row11 hm _)
    have hstep := hb.trans (hbu.mono hb.size)
    have HB := Lib.hid (HB.out.trans (hstep.mono HB.out.size))
    have HG0 := Lib.hid (HG0.out.under hstep HG0.out.lt)
    have HG1 := Lib.hid (HG1.out.under hstep HG1.out.lt)
    have HUU := Lib.hid hu3
    clear hm hbu hb hstep hu3
    go_upto_region 8 with (with_reducible refine wpList_store_rowTo (o := ⟨none, _, _, _, _, _⟩) rfl 29 _ _ rfl rfl (x3.heap.size) (psA sP) rfl rfl 29 _ (HM.out).raw11 (by kernel_rfl) (by kernel_rfl) (by kernel_rfl) ?_)
    rw [HUU.out]
    clear HUU HM
    have hk := roff_any t a path A n c m u3 (HT.out _ HB.out) HQ.out HCJ.out (HP.out _ HB.out) (by have := HN.out; omega)
    rw [HS.out] at hk
    have HK := Lib.hid hk
    clear hk
    go_wp2_with (with_reducible refine wpList_load_row (o := ⟨some 56, _, _, _, _, _⟩) rfl 27 _ rfl (w.heap.size) rfl 27 (tpC t a) (0, 0) _ (HG0.out).raw11 Try.underlying27 rfl (by kernel_rfl) ?_)
    refine HK.out.mono ?_
    rintro e x4 ⟨rfl, hb⟩
    clear HK
    have hm : Has (x4.alloc (.cells #[.int .i64 0, .int .i64 0, .bool false] 29)) x4.heap.size 29 #[.int .i64 0, .int .i64 0, .bool false] := Has.made _ _ _
    have HM := Lib.hid hm
    obtain ⟨u4, hu4⟩ : ∃ u_, (x4.alloc (.cells #[.int .i64 0, .int .i64 0, .bool false] 29)).setRow x4.heap.size (psA sP) = u_ := ⟨_, rfl⟩
    have hbu : Below x4.heap.size x4 u4 := by rw [← hu4]; exact below_row (g := x4.heap.size) ((Below.refl _ _).alloc (Nat.le_refl _) _) (Nat.le_refl _) _
    have HX4 := Lib.hid (show Has u4 x4.heap.size 29 (psA sP) from by rw [← hu4]; exact has_row11 hm _)
    have hstep := hb.trans (hbu.mono hb.size)
    have HB := Lib.hid (HB.out.trans (hstep.mono HB.out.size))
    have HG0 := Lib.hid (HG0.out.under hstep HG0.out.lt)
    have HG1 := Lib.hid (HG1.out.under hstep HG1.out.lt)
    have HX3 := Lib.hid (HX3.out.under hstep HX3.out.lt)
    have HUU := Lib.hid hu4
    clear hm hbu hb hstep hu4
    go_upto_region 9 with (with_reducible refine wpList_store_rowTo (o := ⟨none, _, _, _, _, _⟩) rfl 29 _ _ rfl rfl (x4.heap.size) (psA sP) rfl rfl 29 _ (HM.out).raw11 (by kernel_rfl) (by kernel_rfl) (by kernel_rfl) ?_)
    rw [HUU.out]
    clear HUU HM
    have q1 := eq_ps14 sP sP
    rw [(eqP_iff sP sP).2 rfl] at q1
    go_wp2_with (first | ((with_reducible refine at_slot11 71 ?_); refine wpList_load_rowW11 (o := ⟨some 71, _, _, _, _, _⟩) 29 _ rfl (by kernel_rfl) (x3.heap.size) rfl 29 (psA sP) (0, 0) _ (HX3.out).raw11 Try.underlying29 rfl (by kernel_rfl) ?_) | ((with_reducible refine at_slot11 72 ?_); refine wpList_load_rowW11 (o := ⟨some 72, _, _, _, _, _⟩) 29 _ rfl (by kernel_rfl) (x4.heap.size) rfl 29 (psA sP) (0, 0) _ (HX4.out).raw11 Try.underlying29 rfl (by kernel_rfl) ?_))
    go_ret
    exact ⟨by first | rfl | simp, HB.out⟩

end Go.Proofs.Ytfchmjldhefmkaa
