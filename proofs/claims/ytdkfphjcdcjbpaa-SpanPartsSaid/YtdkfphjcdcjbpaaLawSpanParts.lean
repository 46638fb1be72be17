/-
  linesidelaw15: SpanParts.
-/
import Derived.Test.YtdkfphjcdcjbpaaLawAwake15

import Derived.BigQuiet

import Derived.IntWalk

namespace Go.Proofs.Ytdkfphjcdcjbpaa

open Go.RowKit

open Go.Great

set_option maxRecDepth 100000 in
set_option maxHeartbeats 20000000 in
theorem spanParts_walk (A : Option Addr) (n c : Nat) (a : List Sn3) (B : Option Addr) (m d : Nat) (b : List Sn3) (w : World) (ha : SlO snC 3 w A n c a) (hnc : n ≤ c) (hb : SlO snC 3 w B m d b) (hmd : m ≤ d) :
    Calls Try.prog 7 #[.slice A n c, .slice B m d] w fun e w' => e = .returned (.bool true) ∧ Below w.heap.size w w' := by
  have HLA := Lib.hid ha.1
  have HLB := Lib.hid hb.1
  have HSa := Lib.hid ha
  have HCa := Lib.hid hnc
  have HSb := Lib.hid hb
  have HCb := Lib.hid hmd
  have HB := Lib.hid (Below.refl w.heap.size w)
  clear ha hnc hb hmd
  go_enter Try.func7, Try.ntmps7
  go_wp2_with fail
  refine (awake15_any w).mono ?_
  rintro r_ w1 ⟨rfl, hb⟩
  have HB := Lib.hid (HB.out.trans (hb.mono HB.out.size))
  have HSa := Lib.hid (HSa.out.under hb)
  have HSb := Lib.hid (HSb.out.under hb)
  clear hb
  by_cases z0 : 200 < n
  · have x1_ : (200 : Int) < n := by omega
    go_wp2
    go_ret
    exact ⟨by first | rfl | simp, HB.out⟩
  have z0_ : ¬ (200 : Int) < n := by omega
  by_cases z1 : 200 < m
  · have x1_ : (200 : Int) < m := by omega
    go_wp2
    go_ret
    exact ⟨by first | rfl | simp, HB.out⟩
  have z1_ : ¬ (200 : Int) < m := by omega
  have HNa := Lib.hid (show n ≤ 4096 by omega)
  have HNb := Lib.hid (show m ≤ 4096 by omega)
  have HLa := Lib.hid (show a.length ≤ 200 from by have h_ := HLA.out; omega)
  have HLb := Lib.hid (show b.length ≤ 200 from by have h_ := HLB.out; omega)
  go_upto_region 4 with fail
  clear z0 z0_ z1 z1_
  obtain ⟨P1, P2, P3, P4, P5, P6, P7⟩ := parts a b
  have HP1 := Lib.hid P1
  have HP2 := Lib.hid P2
  have HP3 := Lib.hid P3
  have HP4 := Lib.hid P4
  have HP5 := Lib.hid P5
  have HP6 := Lib.hid P6
  have HP7 := Lib.hid P7
  clear P1 P2 P3 P4 P5 P6 P7
  go_wp2_with fail
  refine (osn_both (a) (b) A B n c m d w1 HSa.out HSb.out HCa.out HCb.out (by have := HNa.out; omega) (by have := HNb.out; omega)).mono ?_
  rintro r_ v1 ⟨X1, x1, rfl, hs_, hc_, hb⟩
  have HB := Lib.hid (HB.out.trans (hb.mono HB.out.size))
  have HSa := Lib.hid (HSa.out.under hb)
  have HSb := Lib.hid (HSb.out.under hb)
  clear hb
  obtain ⟨k1, hk_⟩ : ∃ k_, (bothL a b).length = k_ := ⟨_, rfl⟩
  rw [hk_] at hs_ hc_
  simp only [hk_]
  have HSc := Lib.hid hs_
  have HCc := Lib.hid hc_
  have HNc := Lib.hid (show k1 ≤ 800 from by rw [← hk_]; have h_ := form_few a b ⟨false, false, true⟩; have h2_ := HLa.out; have h3_ := HLb.out; unfold bothL; omega)
  clear hs_ hc_ hk_
  go_wp2_with fail
  refine (osn_minus (a) (b) A B n c m d v1 HSa.out HSb.out HCa.out HCb.out (by have := HNa.out; omega) (by have := HNb.out; omega)).mono ?_
  rintro r_ v2 ⟨X2, x2, rfl, hs_, hc_, hb⟩
  have HB := Lib.hid (HB.out.trans (hb.mono HB.out.size))
  have HSa := Lib.hid (HSa.out.under hb)
  have HSb := Lib.hid (HSb.out.under hb)
  have HSc := Lib.hid (HSc.out.under hb)
  clear hb
  obtain ⟨k2, hk_⟩ : ∃ k_, (minusL a b).length = k_ := ⟨_, rfl⟩
  rw [hk_] at hs_ hc_
  simp only [hk_]
  have HSm := Lib.hid hs_
  have HCm := Lib.hid hc_
  have HNm := Lib.hid (show k2 ≤ 800 from by rw [← hk_]; have h_ := form_few a b ⟨true, false, false⟩; have h2_ := HLa.out; have h3_ := HLb.out; unfold minusL; omega)
  clear hs_ hc_ hk_
  go_wp2_with fail
  refine (osn_union (bothL a b) (minusL a b) X1 X2 k1 x1 k2 x2 v2 HSc.out HSm.out HCc.out HCm.out (by have := HNc.out; omega) (by have := HNm.out; omega)).mono ?_
  rintro r_ v3 ⟨X3, x3, rfl, hs_, hc_, hb⟩
  have HB := Lib.hid (HB.out.trans (hb.mono HB.out.size))
  have HSa := Lib.hid (HSa.out.under hb)
  have HSb := Lib.hid (HSb.out.under hb)
  have HSc := Lib.hid (HSc.out.under hb)
  have HSm := Lib.hid (HSm.out.under hb)
  clear hb
  obtain ⟨k3, hk_⟩ : ∃ k_, (unionL (bothL a b) (minusL a b)).length = k_ := ⟨_, rfl⟩
  rw [hk_] at hs_ hc_
  simp only [hk_]
  have HSx := Lib.hid hs_
  have HCx := Lib.hid hc_
  have HNx := Lib.hid (show k3 ≤ 4096 from by rw [← hk_]; have h_ := form_few (bothL a b) (minusL a b) ⟨true, true, true⟩; have h2_ := HSc.out.1; have h3_ := HSm.out.1; have h4_ := HNc.out; have h5_ := HNm.out; unfold unionL; omega)
  clear hs_ hc_ hk_
  go_wp2_with fail
  refine (osn_norm (a) A n c v3 HSa.out HCa.out (by have := HNa.out; omega)).mono ?_
  rintro r_ v4 ⟨X4, x4, rfl, hs_, hc_, hb⟩
  have HB := Lib.hid (HB.out.trans (hb.mono HB.out.size))
  have HSa := Lib.hid (HSa.out.under hb)
  have HSb := Lib.hid (HSb.out.under hb)
  have HSc := Lib.hid (HSc.out.under hb)
  have HSm := Lib.hid (HSm.out.under hb)
  have HSx := Lib.hid (HSx.out.under hb)
  clear hb
  obtain ⟨k4, hk_⟩ : ∃ k_, (normL a).length = k_ := ⟨_, rfl⟩
  rw [hk_] at hs_ hc_
  simp only [hk_]
  have HSy := Lib.hid hs_
  have HCy := Lib.hid hc_
  have HNy := Lib.hid (show k4 ≤ 4096 from by rw [← hk_]; have h_ := form_few a [] ⟨true, false, false⟩; have h2_ := HLa.out; have h3_ : ([] : List Sn3).length = 0 := rfl; unfold normL; omega)
  clear hs_ hc_ hk_
  go_wp2_with fail
  have hq_ : sameN (unionL (bothL a b) (minusL a b)) (normL a) = true := (sameN_iff _ _).2 (HP1.out)
  refine (rssame_any (unionL (bothL a b) (minusL a b)) (normL a) X3 X4 k3 x3 k4 x4 v4 HSx.out HSy.out (by have := HNx.out; omega) (by have := HNy.out; omega)).mono ?_
  rw [hq_]
  clear hq_
  rintro r_ v5 ⟨rfl, hb⟩
  have HB := Lib.hid (HB.out.trans (hb.mono HB.out.size))
  have HSa := Lib.hid (HSa.out.under hb)
  have HSb := Lib.hid (HSb.out.under hb)
  have HSc := Lib.hid (HSc.out.under hb)
  have HSm := Lib.hid (HSm.out.under hb)
  have HSx := Lib.hid (HSx.out.under hb)
  have HSy := Lib.hid (HSy.out.under hb)
  clear hb
  clear HSx HCx HNx HSy HCy HNy
  go_wp2_with fail
  refine (osn_both (b) (a) B A m d n c v5 HSb.out HSa.out HCb.out HCa.out (by have := HNb.out; omega) (by have := HNa.out; omega)).mono ?_
  rintro r_ v6 ⟨X6, x6, rfl, hs_, hc_, hb⟩
  have HB := Lib.hid (HB.out.trans (hb.mono HB.out.size))
  have HSa := Lib.hid (HSa.out.under hb)
  have HSb := Lib.hid (HSb.out.under hb)
  have HSc := Lib.hid (HSc.out.under hb)
  have HSm := Lib.hid (HSm.out.under hb)
  clear hb
  obtain ⟨k6, hk_⟩ : ∃ k_, (bothL b a).length = k_ := ⟨_, rfl⟩
  rw [hk_] at hs_ hc_
  simp only [hk_]
  have HSx := Lib.hid hs_
  have HCx := Lib.hid hc_
  have HNx := Lib.hid (show k6 ≤ 4096 from by rw [← hk_]; have h_ := form_few b a ⟨false, false, true⟩; have h2_ := HLa.out; have h3_ := HLb.out; unfold bothL; omega)
  clear hs_ hc_ hk_
  go_wp2_with fail
  have hq_ : sameN (bothL b a) (bothL a b) = true := (sameN_iff _ _).2 (HP2.out)
  refine (rssame_any (bothL b a) (bothL a b) X6 X1 k6 x6 k1 x1 v6 HSx.out HSc.out (by have := HNx.out; omega) (by have := HNc.out; omega)).mono ?_
  rw [hq_]
  clear hq_
  rintro r_ v7 ⟨rfl, hb⟩
  have HB := Lib.hid (HB.out.trans (hb.mono HB.out.size))
  have HSa := Lib.hid (HSa.out.under hb)
  have HSb := Lib.hid (HSb.out.under hb)
  have HSc := Lib.hid (HSc.out.under hb)
  have HSm := Lib.hid (HSm.out.under hb)
  have HSx := Lib.hid (HSx.out.under hb)
  clear hb
  clear HSx HCx HNx
  go_wp2_with fail
  refine (osn_union (a) (b) A B n c m d v7 HSa.out HSb.out HCa.out HCb.out (by have := HNa.out; omega) (by have := HNb.out; omega)).mono ?_
  rintro r_ v8 ⟨X8, x8, rfl, hs_, hc_, hb⟩
  have HB := Lib.hid (HB.out.trans (hb.mono HB.out.size))
  have HSa := Lib.hid (HSa.out.under hb)
  have HSb := Lib.hid (HSb.out.under hb)
  have HSc := Lib.hid (HSc.out.under hb)
  have HSm := Lib.hid (HSm.out.under hb)
  clear hb
  obtain ⟨k8, hk_⟩ : ∃ k_, (unionL a b).length = k_ := ⟨_, rfl⟩
  rw [hk_] at hs_ hc_
  simp only [hk_]
  have HSx := Lib.hid hs_
  have HCx := Lib.hid hc_
  have HNx := Lib.hid (show k8 ≤ 4096 from by rw [← hk_]; have h_ := form_few a b ⟨true, true, true⟩; have h2_ := HLa.out; have h3_ := HLb.out; unfold unionL; omega)
  clear hs_ hc_ hk_
  go_wp2_with fail
  refine (osn_union (b) (a) B A m d n c v8 HSb.out HSa.out HCb.out HCa.out (by have := HNb.out; omega) (by have := HNa.out; omega)).mono ?_
  rintro r_ v9 ⟨X9, x9, rfl, hs_, hc_, hb⟩
  have HB := Lib.hid (HB.out.trans (hb.mono HB.out.size))
  have HSa := Lib.hid (HSa.out.under hb)
  have HSb := Lib.hid (HSb.out.under hb)
  have HSc := Lib.hid (HSc.out.under hb)
  have HSm := Lib.hid (HSm.out.under hb)
  have HSx := Lib.hid (HSx.out.under hb)
  clear hb
  obtain ⟨k9, hk_⟩ : ∃ k_, (unionL b a).length = k_ := ⟨_, rfl⟩
  rw [hk_] at hs_ hc_
  simp only [hk_]
  have HSy := Lib.hid hs_
  have HCy := Lib.hid hc_
  have HNy := Lib.hid (show k9 ≤ 4096 from by rw [← hk_]; have h_ := form_few b a ⟨true, true, true⟩; have h2_ := HLa.out; have h3_ := HLb.out; unfold unionL; omega)
  clear hs_ hc_ hk_
  go_wp2_with fail
  have hq_ : sameN (unionL a b) (unionL b a) = true := (sameN_iff _ _).2 (HP3.out)
  refine (rssame_any (unionL a b) (unionL b a) X8 X9 k8 x8 k9 x9 v9 HSx.out HSy.out (by have := HNx.out; omega) (by have := HNy.out; omega)).mono ?_
  rw [hq_]
  clear hq_
  rintro r_ v10 ⟨rfl, hb⟩
  have HB := Lib.hid (HB.out.trans (hb.mono HB.out.size))
  have HSa := Lib.hid (HSa.out.under hb)
  have HSb := Lib.hid (HSb.out.under hb)
  have HSc := Lib.hid (HSc.out.under hb)
  have HSm := Lib.hid (HSm.out.under hb)
  have HSx := Lib.hid (HSx.out.under hb)
  have HSy := Lib.hid (HSy.out.under hb)
  clear hb
  clear HSx HCx HNx HSy HCy HNy
  go_wp2_with fail
  refine (osn_meets (bothL a b) (minusL a b) X1 X2 k1 x1 k2 x2 v10 HSc.out HSm.out HCc.out HCm.out (by have := HNc.out; omega) (by have := HNm.out; omega)).mono ?_
  rw [HP4.out]
  rintro r_ v11 ⟨rfl, hb⟩
  have HB := Lib.hid (HB.out.trans (hb.mono HB.out.size))
  have HSa := Lib.hid (HSa.out.under hb)
  have HSb := Lib.hid (HSb.out.under hb)
  have HSc := Lib.hid (HSc.out.under hb)
  have HSm := Lib.hid (HSm.out.under hb)
  clear hb
  obtain ⟨tc, htc⟩ : ∃ q, totalL (bothL a b) = q := ⟨_, rfl⟩
  obtain ⟨tm, htm⟩ : ∃ q, totalL (minusL a b) = q := ⟨_, rfl⟩
  obtain ⟨ta, hta⟩ : ∃ q, totalL a = q := ⟨_, rfl⟩
  have HTC := Lib.hid htc; have HTM := Lib.hid htm; have HTA := Lib.hid hta
  have HTS := Lib.hid (show tc + tm = ta from by rw [← htc, ← htm, ← hta]; exact HP5.out)
  have HTB := Lib.hid (show (0 ≤ tc ∧ tc ≤ 800000000) ∧ 0 ≤ tm ∧ tm ≤ 800000000 from by rw [← htc, ← htm]; unfold totalL; rw [norm_self (both_normal a b), norm_self (minus_normal a b)]; have h1_ := sum_bound (both_normal a b).1; have h2_ := sum_bound (minus_normal a b).1; have h3_ := HSc.out.1; have h4_ := HSm.out.1; have h5_ := HNc.out; have h6_ := HNm.out; omega)
  clear htc htm hta
  have hwt : IntKind.i64.wrap (tc + tm) = tc + tm := by have h_ := HTB.out; rw [IntKind.wrap_i64]; omega
  have q1 : (tc + tm == ta) = true := by rw [HTS.out]; simp
  go_wp2_with fail
  refine (osn_total (bothL a b) X1 k1 x1 v11 HSc.out HCc.out (by have := HNc.out; omega)).mono ?_
  rw [HTC.out]
  rintro r_ v12 ⟨rfl, hb⟩
  have HB := Lib.hid (HB.out.trans (hb.mono HB.out.size))
  have HSa := Lib.hid (HSa.out.under hb)
  have HSb := Lib.hid (HSb.out.under hb)
  have HSc := Lib.hid (HSc.out.under hb)
  have HSm := Lib.hid (HSm.out.under hb)
  clear hb
  go_wp2_with fail
  refine (osn_total (minusL a b) X2 k2 x2 v12 HSm.out HCm.out (by have := HNm.out; omega)).mono ?_
  rw [HTM.out]
  rintro r_ v13 ⟨rfl, hb⟩
  have HB := Lib.hid (HB.out.trans (hb.mono HB.out.size))
  have HSa := Lib.hid (HSa.out.under hb)
  have HSb := Lib.hid (HSb.out.under hb)
  have HSc := Lib.hid (HSc.out.under hb)
  have HSm := Lib.hid (HSm.out.under hb)
  clear hb
  go_wp2_with fail
  refine (osn_total (a) A n c v13 HSa.out HCa.out (by have := HNa.out; omega)).mono ?_
  rw [HTA.out]
  rintro r_ v14 ⟨rfl, hb⟩
  have HB := Lib.hid (HB.out.trans (hb.mono HB.out.size))
  have HSa := Lib.hid (HSa.out.under hb)
  have HSb := Lib.hid (HSb.out.under hb)
  have HSc := Lib.hid (HSc.out.under hb)
  have HSm := Lib.hid (HSm.out.under hb)
  clear hb
  go_wp2_with fail
  refine (osn_within (bothL a b) (b) X1 B k1 x1 m d v14 HSc.out HSb.out HCc.out HCb.out (by have := HNc.out; omega) (by have := HNb.out; omega)).mono ?_
  rw [HP6.out]
  rintro r_ v15 ⟨rfl, hb⟩
  have HB := Lib.hid (HB.out.trans (hb.mono HB.out.size))
  have HSa := Lib.hid (HSa.out.under hb)
  have HSb := Lib.hid (HSb.out.under hb)
  have HSc := Lib.hid (HSc.out.under hb)
  have HSm := Lib.hid (HSm.out.under hb)
  clear hb
  go_wp2_with fail
  refine (osn_union (a) (b) A B n c m d v15 HSa.out HSb.out HCa.out HCb.out (by have := HNa.out; omega) (by have := HNb.out; omega)).mono ?_
  rintro r_ v16 ⟨X16, x16, rfl, hs_, hc_, hb⟩
  have HB := Lib.hid (HB.out.trans (hb.mono HB.out.size))
  have HSa := Lib.hid (HSa.out.under hb)
  have HSb := Lib.hid (HSb.out.under hb)
  have HSc := Lib.hid (HSc.out.under hb)
  have HSm := Lib.hid (HSm.out.under hb)
  clear hb
  obtain ⟨k16, hk_⟩ : ∃ k_, (unionL a b).length = k_ := ⟨_, rfl⟩
  rw [hk_] at hs_ hc_
  simp only [hk_]
  have HSx := Lib.hid hs_
  have HCx := Lib.hid hc_
  have HNx := Lib.hid (show k16 ≤ 4096 from by rw [← hk_]; have h_ := form_few a b ⟨true, true, true⟩; have h2_ := HLa.out; have h3_ := HLb.out; unfold unionL; omega)
  clear hs_ hc_ hk_
  go_wp2_with fail
  refine (osn_within (a) (unionL a b) A X16 n c k16 x16 v16 HSa.out HSx.out HCa.out HCx.out (by have := HNa.out; omega) (by have := HNx.out; omega)).mono ?_
  rw [HP7.out]
  rintro r_ v17 ⟨rfl, hb⟩
  have HB := Lib.hid (HB.out.trans (hb.mono HB.out.size))
  have HSa := Lib.hid (HSa.out.under hb)
  have HSb := Lib.hid (HSb.out.under hb)
  have HSc := Lib.hid (HSc.out.under hb)
  have HSm := Lib.hid (HSm.out.under hb)
  have HSx := Lib.hid (HSx.out.under hb)
  clear hb
  clear HSx HCx HNx
  have HWM := Lib.hid (show withinL a b = decide ((k2 : Int) = 0) from by have h_ := HSm.out.1; unfold withinL; rw [empty_len, h_])
  obtain ⟨bw, hbw⟩ : ∃ q, decide ((k2 : Int) = 0) = q := ⟨_, rfl⟩
  rw [hbw] at HWM
  have q5 : ((k2 : Int) == 0) = bw := by rw [← hbw]; rfl
  have q2 : (bw == bw) = true := by simp
  have HBW := Lib.hid hbw
  clear hbw q1 hwt
  go_wp2_with fail
  refine (osn_within (a) (b) A B n c m d v17 HSa.out HSb.out HCa.out HCb.out (by have := HNa.out; omega) (by have := HNb.out; omega)).mono ?_
  rw [HWM.out]
  rintro r_ v18 ⟨rfl, hb⟩
  have HB := Lib.hid (HB.out.trans (hb.mono HB.out.size))
  have HSa := Lib.hid (HSa.out.under hb)
  have HSb := Lib.hid (HSb.out.under hb)
  have HSc := Lib.hid (HSc.out.under hb)
  have HSm := Lib.hid (HSm.out.under hb)
  clear hb
  go_wp2
  go_ret
  exact ⟨by first | rfl | simp, HB.out⟩

end Go.Proofs.Ytdkfphjcdcjbpaa
