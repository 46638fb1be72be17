/-
  linesidelaw15: SpanForms.
-/
import Derived.Test.YtdkfphjcdcjbpaaLawAwake15

import Derived.BigQuiet

import Derived.IntWalk

namespace Go.Proofs.Ytdkfphjcdcjbpaa

open Go.RowKit

open Go.Great

set_option maxRecDepth 100000 in
set_option maxHeartbeats 20000000 in
theorem spanForms_walk (A : Option Addr) (n c : Nat) (a : List Sn3) (B : Option Addr) (m d : Nat) (b : List Sn3) (w : World) (ha : SlO snC 3 w A n c a) (hnc : n ≤ c) (hb : SlO snC 3 w B m d b) (hmd : m ≤ d) :
    Calls Try.prog 3 #[.slice A n c, .slice B m d] w fun e w' => e = .returned (.bool true) ∧ Below w.heap.size w w' := by
  have HLA := Lib.hid ha.1
  have HLB := Lib.hid hb.1
  have HSa := Lib.hid ha
  have HCa := Lib.hid hnc
  have HSb := Lib.hid hb
  have HCb := Lib.hid hmd
  have HB := Lib.hid (Below.refl w.heap.size w)
  clear ha hnc hb hmd
  go_enter Try.func3, Try.ntmps3
  go_wp2_with fail
  refine (awake15_any w).mono ?_
  rintro r_ w1 ⟨rfl, hb⟩
  have HB := Lib.hid (HB.out.trans (hb.mono HB.out.size))
  have HSa := Lib.hid (HSa.out.under hb)
  have HSb := Lib.hid (HSb.out.under hb)
  clear hb
  by_cases z0 : 60 < n
  · have x1_ : (60 : Int) < n := by omega
    go_wp2
    go_ret
    exact ⟨by first | rfl | simp, HB.out⟩
  have z0_ : ¬ (60 : Int) < n := by omega
  by_cases z1 : 60 < m
  · have x1_ : (60 : Int) < m := by omega
    go_wp2
    go_ret
    exact ⟨by first | rfl | simp, HB.out⟩
  have z1_ : ¬ (60 : Int) < m := by omega
  have HNa := Lib.hid (show n ≤ 4096 by omega)
  have HNb := Lib.hid (show m ≤ 4096 by omega)
  have HLa := Lib.hid (show a.length ≤ 60 from by have h_ := HLA.out; omega)
  have HLb := Lib.hid (show b.length ≤ 60 from by have h_ := HLB.out; omega)
  have HQa := Lib.hid (show n ≤ 100 by omega)
  have HQb := Lib.hid (show m ≤ 100 by omega)
  go_upto_region 4 with fail
  clear z0 z0_ z1 z1_
  go_wp2_with fail
  refine (osn_norm (a) A n c w1 HSa.out HCa.out (by have := HNa.out; omega)).mono ?_
  rintro r_ v1 ⟨X1, x1, rfl, hs_, hc_, hb⟩
  have HB := Lib.hid (HB.out.trans (hb.mono HB.out.size))
  have HSa := Lib.hid (HSa.out.under hb)
  have HSb := Lib.hid (HSb.out.under hb)
  clear hb
  obtain ⟨k1, hk_⟩ : ∃ k_, (normL a).length = k_ := ⟨_, rfl⟩
  rw [hk_] at hs_ hc_
  simp only [hk_]
  have HSx := Lib.hid hs_
  have HCx := Lib.hid hc_
  have HNx := Lib.hid (show k1 ≤ 4096 from by rw [← hk_]; have h_ := form_few a [] ⟨true, false, false⟩; have h2_ := HLa.out; have h3_ : ([] : List Sn3).length = 0 := rfl; unfold normL; omega)
  clear hs_ hc_ hk_
  go_wp2_with fail
  refine (rsnorm_any (a) A n c v1 HSa.out HQa.out).mono ?_
  rintro r_ v2 ⟨X2, x2, rfl, hs_, hc_, hb⟩
  have HB := Lib.hid (HB.out.trans (hb.mono HB.out.size))
  have HSa := Lib.hid (HSa.out.under hb)
  have HSb := Lib.hid (HSb.out.under hb)
  have HSx := Lib.hid (HSx.out.under hb)
  clear hb
  obtain ⟨k2, hk_⟩ : ∃ k_, (normL a).length = k_ := ⟨_, rfl⟩
  rw [hk_] at hs_ hc_
  simp only [hk_]
  have HSy := Lib.hid hs_
  have HCy := Lib.hid hc_
  have HNy := Lib.hid (show k2 ≤ 4096 from by rw [← hk_]; have h_ := form_few a [] ⟨true, false, false⟩; have h2_ := HLa.out; have h3_ : ([] : List Sn3).length = 0 := rfl; unfold normL; omega)
  clear hs_ hc_ hk_
  go_wp2_with fail
  have hq_ : sameN (normL a) (normL a) = true := (sameN_iff _ _).2 (rfl)
  refine (rssame_any (normL a) (normL a) X1 X2 k1 x1 k2 x2 v2 HSx.out HSy.out (by have := HNx.out; omega) (by have := HNy.out; omega)).mono ?_
  rw [hq_]
  clear hq_
  rintro r_ v3 ⟨rfl, hb⟩
  have HB := Lib.hid (HB.out.trans (hb.mono HB.out.size))
  have HSa := Lib.hid (HSa.out.under hb)
  have HSb := Lib.hid (HSb.out.under hb)
  have HSx := Lib.hid (HSx.out.under hb)
  have HSy := Lib.hid (HSy.out.under hb)
  clear hb
  clear HSx HCx HNx HSy HCy HNy
  go_wp2_with fail
  refine (osn_union (a) (b) A B n c m d v3 HSa.out HSb.out HCa.out HCb.out (by have := HNa.out; omega) (by have := HNb.out; omega)).mono ?_
  rintro r_ v4 ⟨X4, x4, rfl, hs_, hc_, hb⟩
  have HB := Lib.hid (HB.out.trans (hb.mono HB.out.size))
  have HSa := Lib.hid (HSa.out.under hb)
  have HSb := Lib.hid (HSb.out.under hb)
  clear hb
  obtain ⟨k4, hk_⟩ : ∃ k_, (unionL a b).length = k_ := ⟨_, rfl⟩
  rw [hk_] at hs_ hc_
  simp only [hk_]
  have HSx := Lib.hid hs_
  have HCx := Lib.hid hc_
  have HNx := Lib.hid (show k4 ≤ 4096 from by rw [← hk_]; have h_ := form_few a b ⟨true, true, true⟩; have h2_ := HLa.out; have h3_ := HLb.out; unfold unionL; omega)
  clear hs_ hc_ hk_
  go_wp2_with fail
  refine (rsunion_any (a) (b) A B n c m d v4 HSa.out HSb.out HQa.out HQb.out).mono ?_
  rintro r_ v5 ⟨X5, x5, rfl, hs_, hc_, hb⟩
  have HB := Lib.hid (HB.out.trans (hb.mono HB.out.size))
  have HSa := Lib.hid (HSa.out.under hb)
  have HSb := Lib.hid (HSb.out.under hb)
  have HSx := Lib.hid (HSx.out.under hb)
  clear hb
  obtain ⟨k5, hk_⟩ : ∃ k_, (unionL a b).length = k_ := ⟨_, rfl⟩
  rw [hk_] at hs_ hc_
  simp only [hk_]
  have HSy := Lib.hid hs_
  have HCy := Lib.hid hc_
  have HNy := Lib.hid (show k5 ≤ 4096 from by rw [← hk_]; have h_ := form_few a b ⟨true, true, true⟩; have h2_ := HLa.out; have h3_ := HLb.out; unfold unionL; omega)
  clear hs_ hc_ hk_
  go_wp2_with fail
  have hq_ : sameN (unionL a b) (unionL a b) = true := (sameN_iff _ _).2 (rfl)
  refine (rssame_any (unionL a b) (unionL a b) X4 X5 k4 x4 k5 x5 v5 HSx.out HSy.out (by have := HNx.out; omega) (by have := HNy.out; omega)).mono ?_
  rw [hq_]
  clear hq_
  rintro r_ v6 ⟨rfl, hb⟩
  have HB := Lib.hid (HB.out.trans (hb.mono HB.out.size))
  have HSa := Lib.hid (HSa.out.under hb)
  have HSb := Lib.hid (HSb.out.under hb)
  have HSx := Lib.hid (HSx.out.under hb)
  have HSy := Lib.hid (HSy.out.under hb)
  clear hb
  clear HSx HCx HNx HSy HCy HNy
  go_wp2_with fail
  refine (osn_minus (a) (b) A B n c m d v6 HSa.out HSb.out HCa.out HCb.out (by have := HNa.out; omega) (by have := HNb.out; omega)).mono ?_
  rintro r_ v7 ⟨X7, x7, rfl, hs_, hc_, hb⟩
  have HB := Lib.hid (HB.out.trans (hb.mono HB.out.size))
  have HSa := Lib.hid (HSa.out.under hb)
  have HSb := Lib.hid (HSb.out.under hb)
  clear hb
  obtain ⟨k7, hk_⟩ : ∃ k_, (minusL a b).length = k_ := ⟨_, rfl⟩
  rw [hk_] at hs_ hc_
  simp only [hk_]
  have HSx := Lib.hid hs_
  have HCx := Lib.hid hc_
  have HNx := Lib.hid (show k7 ≤ 4096 from by rw [← hk_]; have h_ := form_few a b ⟨true, false, false⟩; have h2_ := HLa.out; have h3_ := HLb.out; unfold minusL; omega)
  clear hs_ hc_ hk_
  go_wp2_with fail
  refine (rsminus_any (a) (b) A B n c m d v7 HSa.out HSb.out HQa.out HQb.out).mono ?_
  rintro r_ v8 ⟨X8, x8, rfl, hs_, hc_, hb⟩
  have HB := Lib.hid (HB.out.trans (hb.mono HB.out.size))
  have HSa := Lib.hid (HSa.out.under hb)
  have HSb := Lib.hid (HSb.out.under hb)
  have HSx := Lib.hid (HSx.out.under hb)
  clear hb
  obtain ⟨k8, hk_⟩ : ∃ k_, (minusL a b).length = k_ := ⟨_, rfl⟩
  rw [hk_] at hs_ hc_
  simp only [hk_]
  have HSy := Lib.hid hs_
  have HCy := Lib.hid hc_
  have HNy := Lib.hid (show k8 ≤ 4096 from by rw [← hk_]; have h_ := form_few a b ⟨true, false, false⟩; have h2_ := HLa.out; have h3_ := HLb.out; unfold minusL; omega)
  clear hs_ hc_ hk_
  go_wp2_with fail
  have hq_ : sameN (minusL a b) (minusL a b) = true := (sameN_iff _ _).2 (rfl)
  refine (rssame_any (minusL a b) (minusL a b) X7 X8 k7 x7 k8 x8 v8 HSx.out HSy.out (by have := HNx.out; omega) (by have := HNy.out; omega)).mono ?_
  rw [hq_]
  clear hq_
  rintro r_ v9 ⟨rfl, hb⟩
  have HB := Lib.hid (HB.out.trans (hb.mono HB.out.size))
  have HSa := Lib.hid (HSa.out.under hb)
  have HSb := Lib.hid (HSb.out.under hb)
  have HSx := Lib.hid (HSx.out.under hb)
  have HSy := Lib.hid (HSy.out.under hb)
  clear hb
  clear HSx HCx HNx HSy HCy HNy
  go_wp2_with fail
  refine (osn_both (a) (b) A B n c m d v9 HSa.out HSb.out HCa.out HCb.out (by have := HNa.out; omega) (by have := HNb.out; omega)).mono ?_
  rintro r_ v10 ⟨X10, x10, rfl, hs_, hc_, hb⟩
  have HB := Lib.hid (HB.out.trans (hb.mono HB.out.size))
  have HSa := Lib.hid (HSa.out.under hb)
  have HSb := Lib.hid (HSb.out.under hb)
  clear hb
  obtain ⟨k10, hk_⟩ : ∃ k_, (bothL a b).length = k_ := ⟨_, rfl⟩
  rw [hk_] at hs_ hc_
  simp only [hk_]
  have HSx := Lib.hid hs_
  have HCx := Lib.hid hc_
  have HNx := Lib.hid (show k10 ≤ 4096 from by rw [← hk_]; have h_ := form_few a b ⟨false, false, true⟩; have h2_ := HLa.out; have h3_ := HLb.out; unfold bothL; omega)
  clear hs_ hc_ hk_
  go_wp2_with fail
  refine (rsboth_any (a) (b) A B n c m d v10 HSa.out HSb.out HQa.out HQb.out).mono ?_
  rintro r_ v11 ⟨X11, x11, rfl, hs_, hc_, hb⟩
  have HB := Lib.hid (HB.out.trans (hb.mono HB.out.size))
  have HSa := Lib.hid (HSa.out.under hb)
  have HSb := Lib.hid (HSb.out.under hb)
  have HSx := Lib.hid (HSx.out.under hb)
  clear hb
  obtain ⟨k11, hk_⟩ : ∃ k_, (bothL a b).length = k_ := ⟨_, rfl⟩
  rw [hk_] at hs_ hc_
  simp only [hk_]
  have HSy := Lib.hid hs_
  have HCy := Lib.hid hc_
  have HNy := Lib.hid (show k11 ≤ 4096 from by rw [← hk_]; have h_ := form_few a b ⟨false, false, true⟩; have h2_ := HLa.out; have h3_ := HLb.out; unfold bothL; omega)
  clear hs_ hc_ hk_
  go_wp2_with fail
  have hq_ : sameN (bothL a b) (bothL a b) = true := (sameN_iff _ _).2 (rfl)
  refine (rssame_any (bothL a b) (bothL a b) X10 X11 k10 x10 k11 x11 v11 HSx.out HSy.out (by have := HNx.out; omega) (by have := HNy.out; omega)).mono ?_
  rw [hq_]
  clear hq_
  rintro r_ v12 ⟨rfl, hb⟩
  have HB := Lib.hid (HB.out.trans (hb.mono HB.out.size))
  have HSa := Lib.hid (HSa.out.under hb)
  have HSb := Lib.hid (HSb.out.under hb)
  have HSx := Lib.hid (HSx.out.under hb)
  have HSy := Lib.hid (HSy.out.under hb)
  clear hb
  clear HSx HCx HNx HSy HCy HNy
  obtain ⟨bw, hbw⟩ : ∃ q, withinL a b = q := ⟨_, rfl⟩
  obtain ⟨bm, hbm⟩ : ∃ q, meetsL a b = q := ⟨_, rfl⟩
  obtain ⟨tt, htt⟩ : ∃ q, totalL a = q := ⟨_, rfl⟩
  have HW := Lib.hid hbw; have HM := Lib.hid hbm; have HT := Lib.hid htt
  clear hbw hbm htt
  have q1 : (bw == bw) = true := by simp
  have q2 : (bm == bm) = true := by simp
  have q3 : (tt == tt) = true := by simp
  go_wp2_with fail
  refine (osn_within (a) (b) A B n c m d v12 HSa.out HSb.out HCa.out HCb.out (by have := HNa.out; omega) (by have := HNb.out; omega)).mono ?_
  rw [HW.out]
  rintro r_ v13 ⟨rfl, hb⟩
  have HB := Lib.hid (HB.out.trans (hb.mono HB.out.size))
  have HSa := Lib.hid (HSa.out.under hb)
  have HSb := Lib.hid (HSb.out.under hb)
  clear hb
  go_wp2_with fail
  refine (rswithin_any (a) (b) A B n c m d v13 HSa.out HSb.out HQa.out HQb.out).mono ?_
  rw [HW.out]
  rintro r_ v14 ⟨rfl, hb⟩
  have HB := Lib.hid (HB.out.trans (hb.mono HB.out.size))
  have HSa := Lib.hid (HSa.out.under hb)
  have HSb := Lib.hid (HSb.out.under hb)
  clear hb
  go_wp2_with fail
  refine (osn_meets (a) (b) A B n c m d v14 HSa.out HSb.out HCa.out HCb.out (by have := HNa.out; omega) (by have := HNb.out; omega)).mono ?_
  rw [HM.out]
  rintro r_ v15 ⟨rfl, hb⟩
  have HB := Lib.hid (HB.out.trans (hb.mono HB.out.size))
  have HSa := Lib.hid (HSa.out.under hb)
  have HSb := Lib.hid (HSb.out.under hb)
  clear hb
  go_wp2_with fail
  refine (rsmeets_any (a) (b) A B n c m d v15 HSa.out HSb.out HQa.out HQb.out).mono ?_
  rw [HM.out]
  rintro r_ v16 ⟨rfl, hb⟩
  have HB := Lib.hid (HB.out.trans (hb.mono HB.out.size))
  have HSa := Lib.hid (HSa.out.under hb)
  have HSb := Lib.hid (HSb.out.under hb)
  clear hb
  go_wp2_with fail
  refine (osn_total (a) A n c v16 HSa.out HCa.out (by have := HNa.out; omega)).mono ?_
  rw [HT.out]
  rintro r_ v17 ⟨rfl, hb⟩
  have HB := Lib.hid (HB.out.trans (hb.mono HB.out.size))
  have HSa := Lib.hid (HSa.out.under hb)
  have HSb := Lib.hid (HSb.out.under hb)
  clear hb
  go_wp2_with fail
  refine (rstotal_any (a) A n c v17 HSa.out HQa.out).mono ?_
  rw [HT.out]
  rintro r_ v18 ⟨rfl, hb⟩
  have HB := Lib.hid (HB.out.trans (hb.mono HB.out.size))
  have HSa := Lib.hid (HSa.out.under hb)
  have HSb := Lib.hid (HSb.out.under hb)
  clear hb
  go_wp2
  go_ret
  exact ⟨by first | rfl | simp, HB.out⟩

end Go.Proofs.Ytdkfphjcdcjbpaa
