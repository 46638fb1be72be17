/-
  linesidelaw15: SpanOvers.
-/
import Derived.Test.YtdkfphjcdcjbpaaLawAwake15

import Derived.Test.YtdkfphjcdcjbpaaTpRefC

import Derived.BigQuiet

import Derived.IntWalk

namespace Go.Proofs.Ytdkfphjcdcjbpaa

open Go.RowKit

open Go.Great

theorem ov_len (t : Tp3) (fr tz : Int) (path : List St3) (at_ : Int) : (ovGo t fr tz path at_).length ≤ path.length := by
  induction path generalizing at_ with
  | nil => exact Nat.le_refl _
  | cons s r ih =>
    rw [ovGo, List.length_append, List.length_cons]
    have h1 := ih (at_ + lenAt t s)
    have h2 : (partN s (lenAt t s) (cutA fr at_) (cutB tz at_ (lenAt t s))).length ≤ 1 := by
      unfold partN
      split <;> simp
    omega
theorem over_few (t : Tp3) (path : List St3) (fr tz : Int) : (overE t path fr tz).1.length ≤ 2 * path.length := by
  unfold overE
  split
  · split
    · have h1 := ov_len t fr tz path 0
      have h2 := form_few (ovGo t fr tz path 0) [] ⟨true, false, false⟩
      have h3 : ([] : List Sn3).length = 0 := rfl
      show (normL (ovGo t fr tz path 0)).length ≤ _
      unfold normL
      omega
    · exact Nat.zero_le _
  · exact Nat.zero_le _

set_option maxRecDepth 100000 in
set_option maxHeartbeats 20000000 in
theorem spanOvers_walk (t : Tp3) (a : TpA) (A : Option Addr) (n c : Nat) (path : List St3) (fr tz : Int) (w : World) (ht : TopR w t a) (hcj : t.joints.length ≤ a.cj) (hp : SlO stC 2 w A n c path) (hnc : n ≤ c) (hfr : (Lit.int .i64 fr).wf = true) (htz : (Lit.int .i64 tz).wf = true) :
    Calls Try.prog 4 #[.agg (tpC t a), .slice A n c, .int .i64 fr, .int .i64 tz] w fun e w' => e = .returned (.bool true) ∧ Below w.heap.size w w' := by
  obtain ⟨wa, hwa⟩ : ∃ wa, w.alloc (.cells (tpC t a) 33) = wa := ⟨_, rfl⟩
  have hbwa : Below w.heap.size w wa := by rw [← hwa]; exact (Below.refl _ _).alloc (Nat.le_refl _) _
  have h0 : Has wa (w.heap.size) 33 (tpC t a) := by rw [← hwa]; exact (Has.made _ _ _)
  have HWA := Lib.hid hwa; have HBWA := Lib.hid hbwa
  have HT := Lib.hid (fun W (hW : Below w.heap.size w W) => ht.under hW)
  have HP := Lib.hid (fun W (hW : Below w.heap.size w W) => hp.under hW)
  have HL := Lib.hid hp.1
  have HNC := Lib.hid hnc
  have HCJ := Lib.hid hcj
  have HG0 := Lib.hid h0
  have HIfr := Lib.hid (int_bounds11 hfr)
  have HItz := Lib.hid (int_bounds11 htz)
  clear hwa hbwa h0 ht hcj hp hnc hfr htz
  obtain ⟨q, hq⟩ : ∃ q, lightT t = q := ⟨_, rfl⟩
  have HQ := Lib.hid hq
  clear hq
  go_enter Try.func4, Try.ntmps4
  go_upto_region 1 with fail
  rw [HWA.out]
  clear HWA
  go_wp2_with fail
  refine (awake15_any wa).mono ?_
  rintro e w1 ⟨rfl, hb⟩
  have HB := HBWA
  clear HBWA
  have HB := Lib.hid (HB.out.trans (hb.mono HB.out.size))
  have HG0 := Lib.hid (HG0.out.under hb HG0.out.lt)
  clear hb
  go_wp2_with (with_reducible refine wpList_load_row (o := ⟨some 17, _, _, _, _, _⟩) rfl 33 _ rfl (w.heap.size) rfl 33 (tpC t a) (0, 0) _ (HG0.out).raw11 Try.underlying33 rfl (by kernel_rfl) ?_)
  refine (rlight_any13 t a w1 (HT.out _ HB.out)).mono ?_
  rw [HQ.out]
  rintro e w2 ⟨rfl, hb⟩
  have HB := Lib.hid (HB.out.trans (hb.mono HB.out.size))
  have HG0 := Lib.hid (HG0.out.under hb HG0.out.lt)
  clear hb
  cases q with
  | false =>
    go_wp2
    go_ret
    exact ⟨by first | rfl | simp, HB.out⟩
  | true =>
    by_cases zn : 100 < n
    · have x1_ : (100 : Int) < n := by omega
      go_wp2
      go_ret
      exact ⟨by first | rfl | simp, HB.out⟩
    have x1_ : ¬ (100 : Int) < n := by omega
    have HN := Lib.hid (show n ≤ 100 by omega)
    obtain ⟨L1, hL_⟩ : ∃ q, (overE t path fr tz).1 = q := ⟨_, rfl⟩
    obtain ⟨E1, hE_⟩ : ∃ q, (overE t path fr tz).2 = q := ⟨_, rfl⟩
    have HR1 := Lib.hid (show overE t path fr tz = (L1, E1) from Prod.ext hL_ hE_)
    have HFW1 := Lib.hid (show L1.length ≤ 4096 from by rw [← hL_]; have h_ := over_few t path fr tz; have h2_ := HL.out; have h3_ := HN.out; omega)
    clear hL_ hE_
    go_upto_region 5 with fail
    clear zn x1_
    have hk_ := osn_over t a path A n c fr tz w2 (HT.out _ HB.out) HCJ.out (HP.out _ HB.out) HN.out HNC.out HQ.out HIfr.out HItz.out
    rw [HR1.out] at hk_
    have HK := Lib.hid hk_
    clear hk_
    go_wp2_with (with_reducible refine wpList_load_row (o := ⟨some 32, _, _, _, _, _⟩) rfl 33 _ rfl (w.heap.size) rfl 33 (tpC t a) (0, 0) _ (HG0.out).raw11 Try.underlying33 rfl (by kernel_rfl) ?_)
    refine HK.out.mono ?_
    rintro r_ v1 ⟨X1, x1, rfl, hs_, hc_, hb⟩
    clear HK
    have HB := Lib.hid (HB.out.trans (hb.mono HB.out.size))
    have HG0 := Lib.hid (HG0.out.under hb HG0.out.lt)
    clear hb
    obtain ⟨k1, hk_⟩ : ∃ k_, L1.length = k_ := ⟨_, rfl⟩
    have hs2_ : SlO snC 3 v1 X1 L1.length x1 L1 := hs_
    have hc2_ : L1.length ≤ x1 := hc_
    rw [hk_] at hs2_ hc2_
    simp only [hk_]
    have HSo1 := Lib.hid hs2_
    have HCo1 := Lib.hid hc2_
    have HNo1 := Lib.hid (show k1 ≤ 4096 from by rw [← hk_]; exact HFW1.out)
    clear hs_ hc_ hk_ hs2_ hc2_
    go_upto_region 6 with fail
    have hk_ := rsover_any t a path A n c fr tz v1 (HT.out _ HB.out) (HP.out _ HB.out) HN.out HQ.out
    rw [HR1.out] at hk_
    have HK := Lib.hid hk_
    clear hk_
    go_wp2_with (with_reducible refine wpList_load_row (o := ⟨some 40, _, _, _, _, _⟩) rfl 33 _ rfl (w.heap.size) rfl 33 (tpC t a) (0, 0) _ (HG0.out).raw11 Try.underlying33 rfl (by kernel_rfl) ?_)
    refine HK.out.mono ?_
    rintro r_ v2 ⟨X2, x2, rfl, hs_, hc_, hb⟩
    clear HK
    have HB := Lib.hid (HB.out.trans (hb.mono HB.out.size))
    have HSo1 := Lib.hid (HSo1.out.under hb)
    have HG0 := Lib.hid (HG0.out.under hb HG0.out.lt)
    clear hb
    obtain ⟨k2, hk_⟩ : ∃ k_, L1.length = k_ := ⟨_, rfl⟩
    have hs2_ : SlO snC 3 v2 X2 L1.length x2 L1 := hs_
    have hc2_ : L1.length ≤ x2 := hc_
    rw [hk_] at hs2_ hc2_
    simp only [hk_]
    have HSo2 := Lib.hid hs2_
    have HCo2 := Lib.hid hc2_
    have HNo2 := Lib.hid (show k2 ≤ 4096 from by rw [← hk_]; exact HFW1.out)
    clear hs_ hc_ hk_ hs2_ hc2_
    go_wp2_with fail
    have hq_ : sameN (L1) (L1) = true := (sameN_iff _ _).2 (rfl)
    refine (rssame_any (L1) (L1) X1 X2 k1 x1 k2 x2 v2 HSo1.out HSo2.out (by have := HNo1.out; omega) (by have := HNo2.out; omega)).mono ?_
    rw [hq_]
    clear hq_
    rintro r_ v3 ⟨rfl, hb⟩
    have HB := Lib.hid (HB.out.trans (hb.mono HB.out.size))
    have HSo1 := Lib.hid (HSo1.out.under hb)
    have HSo2 := Lib.hid (HSo2.out.under hb)
    have HG0 := Lib.hid (HG0.out.under hb HG0.out.lt)
    clear hb
    have q1 : (E1 == E1) = true := by simp
    go_wp2
    go_ret
    exact ⟨by first | rfl | simp, HB.out⟩

end Go.Proofs.Ytdkfphjcdcjbpaa
