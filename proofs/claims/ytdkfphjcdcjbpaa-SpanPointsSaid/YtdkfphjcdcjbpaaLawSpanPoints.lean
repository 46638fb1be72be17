/-
  linesidelaw15: SpanPoints.
-/
import Derived.Test.YtdkfphjcdcjbpaaLawAwake15

import Derived.BigQuiet

import Derived.IntWalk

namespace Go.Proofs.Ytdkfphjcdcjbpaa

open Go.RowKit

open Go.Great

theorem has_take15 {l : List Sn3} {i : Nat} {s : Sn3} {e x : Int} (hs : l[i]? = some s) : hasL (l.take (i + 1)) e x = (hasL (l.take i) e x || hasS s e x) := by
  rw [List.take_add_one, hs, hasL_app]
  congr 1
  exact Bool.or_false _

set_option maxRecDepth 100000 in
set_option maxHeartbeats 20000000 in
theorem spanPoints_walk (A : Option Addr) (n c : Nat) (a : List Sn3) (B : Option Addr) (m d : Nat) (b : List Sn3) (e x : Int) (w : World) (ha : SlO snC 3 w A n c a) (hnc : n ≤ c) (hb : SlO snC 3 w B m d b) (hmd : m ≤ d) (_ : (Lit.int .i64 e).wf = true) (_ : (Lit.int .i64 x).wf = true) :
    Calls Try.prog 5 #[.slice A n c, .slice B m d, .int .i64 e, .int .i64 x] w fun e w' => e = .returned (.bool true) ∧ Below w.heap.size w w' := by
  have HLA := Lib.hid ha.1
  have HLB := Lib.hid hb.1
  have HSa := Lib.hid ha
  have HCa := Lib.hid hnc
  have HSb := Lib.hid hb
  have HCb := Lib.hid hmd
  have HB := Lib.hid (Below.refl w.heap.size w)
  clear ha hnc hb hmd
  go_enter Try.func5, Try.ntmps5
  go_wp2_with fail
  refine (awake15_any w).mono ?_
  rintro r_ w1 ⟨rfl, hb⟩
  have HB := Lib.hid (HB.out.trans (hb.mono HB.out.size))
  have HSa := Lib.hid (HSa.out.under hb)
  have HSb := Lib.hid (HSb.out.under hb)
  clear hb
  by_cases z0 : 200 < n
  · have x1_ : (200 : Int) < n := by omega
    go_wp2
    go_ret
    exact ⟨by first | rfl | simp, HB.out⟩
  have z0_ : ¬ (200 : Int) < n := by omega
  by_cases z1 : 200 < m
  · have x1_ : (200 : Int) < m := by omega
    go_wp2
    go_ret
    exact ⟨by first | rfl | simp, HB.out⟩
  have z1_ : ¬ (200 : Int) < m := by omega
  have HNa := Lib.hid (show n ≤ 4096 by omega)
  have HNb := Lib.hid (show m ≤ 4096 by omega)
  have HLa := Lib.hid (show a.length ≤ 200 from by have h_ := HLA.out; omega)
  have HLb := Lib.hid (show b.length ≤ 200 from by have h_ := HLB.out; omega)
  go_upto_region 5 with fail
  clear z0 z1
  go_wp2
  go_loopg [10, 11] n (fun kk v10 v11 wl => ∃ (i : Nat) (X : Bool), i ≤ n ∧ n - i ≤ kk ∧ v11 = .int .i64 i ∧ v10 = .bool X ∧ Hid (hasL (a.take i) e x = X) ∧ wl = w1)
  case atStart => exact ⟨0, false, by omega, by omega, rfl, rfl, Lib.hid rfl, rfl⟩
  case round =>
    obtain ⟨i, X, hi, hik, rfl, rfl, HX, rfl⟩ := hrel
    have hn2 : n ≤ 200 := by omega
    by_cases hlt : i < n
    · obtain ⟨s, hs⟩ : ∃ s, a[i]? = some s := ⟨_, List.getElem?_eq_getElem (by rw [HLA.out]; omega)⟩
      have HTK := Lib.hid (has_take15 (e := e) (x := x) hs)
      obtain ⟨bk, off, rfl, d0, d1, d2⟩ := HSa.out.span hs
      clear hs
      have x1 : (i : Int) < n := by omega
      have x2 : (0 : Int) ≤ i := by omega
      obtain ⟨se, sl, sh⟩ := s
      dsimp only at *
      cases X with
      | true =>
        go_wp2
        go_roundg (gk - 1)
        case measure => omega
        case rel => exact ⟨i + 1, true, by omega, by omega, by go_num, rfl, Lib.hid (by rw [HTK.out, HX.out, Bool.true_or]), rfl⟩
      | false =>
        by_cases y0 : se = e
        rotate_left
        · have q0 : (se == e) = false := by simp [y0]
          have HF : Hid (hasS ⟨se, sl, sh⟩ e x = false) := Lib.hid (by cases hc : hasS ⟨se, sl, sh⟩ e x with | false => rfl | true => have h_ := hasS_iff.1 hc; dsimp only at h_; omega)
          go_wp2
          go_roundg (gk - 1)
          case measure => omega
          case rel => exact ⟨i + 1, false, by omega, by omega, by go_num, rfl, Lib.hid (by rw [HTK.out, HX.out, HF.out, Bool.or_false]), rfl⟩
        have q0 : (se == e) = true := by simp [y0]
        have HY0 := Lib.hid y0
        clear y0
        by_cases y1 : 0 ≤ e
        rotate_left
        · skip
          have HF : Hid (hasS ⟨se, sl, sh⟩ e x = false) := Lib.hid (by cases hc : hasS ⟨se, sl, sh⟩ e x with | false => rfl | true => have h_ := hasS_iff.1 hc; dsimp only at h_; omega)
          go_wp2
          go_roundg (gk - 1)
          case measure => omega
          case rel => exact ⟨i + 1, false, by omega, by omega, by go_num, rfl, Lib.hid (by rw [HTK.out, HX.out, HF.out, Bool.or_false]), rfl⟩
        by_cases y2 : 0 ≤ sl
        rotate_left
        · skip
          have HF : Hid (hasS ⟨se, sl, sh⟩ e x = false) := Lib.hid (by cases hc : hasS ⟨se, sl, sh⟩ e x with | false => rfl | true => have h_ := hasS_iff.1 hc; dsimp only at h_; omega)
          go_wp2
          go_roundg (gk - 1)
          case measure => omega
          case rel => exact ⟨i + 1, false, by omega, by omega, by go_num, rfl, Lib.hid (by rw [HTK.out, HX.out, HF.out, Bool.or_false]), rfl⟩
        by_cases y3 : sh ≤ 1000000
        rotate_left
        · skip
          have HF : Hid (hasS ⟨se, sl, sh⟩ e x = false) := Lib.hid (by cases hc : hasS ⟨se, sl, sh⟩ e x with | false => rfl | true => have h_ := hasS_iff.1 hc; dsimp only at h_; omega)
          go_wp2
          go_roundg (gk - 1)
          case measure => omega
          case rel => exact ⟨i + 1, false, by omega, by omega, by go_num, rfl, Lib.hid (by rw [HTK.out, HX.out, HF.out, Bool.or_false]), rfl⟩
        by_cases y4 : sl ≤ x
        rotate_left
        · skip
          have HF : Hid (hasS ⟨se, sl, sh⟩ e x = false) := Lib.hid (by cases hc : hasS ⟨se, sl, sh⟩ e x with | false => rfl | true => have h_ := hasS_iff.1 hc; dsimp only at h_; omega)
          go_wp2
          go_roundg (gk - 1)
          case measure => omega
          case rel => exact ⟨i + 1, false, by omega, by omega, by go_num, rfl, Lib.hid (by rw [HTK.out, HX.out, HF.out, Bool.or_false]), rfl⟩
        by_cases y5 : x < sh
        rotate_left
        · skip
          have HF : Hid (hasS ⟨se, sl, sh⟩ e x = false) := Lib.hid (by cases hc : hasS ⟨se, sl, sh⟩ e x with | false => rfl | true => have h_ := hasS_iff.1 hc; dsimp only at h_; omega)
          go_wp2
          go_roundg (gk - 1)
          case measure => omega
          case rel => exact ⟨i + 1, false, by omega, by omega, by go_num, rfl, Lib.hid (by rw [HTK.out, HX.out, HF.out, Bool.or_false]), rfl⟩
        have HF : Hid (hasS ⟨se, sl, sh⟩ e x = true) := Lib.hid (hasS_iff.2 ⟨by have := HY0.out; dsimp only; omega, y2, y3, HY0.out, y4, y5⟩)
        go_wp2
        go_roundg (gk - 1)
        case measure => omega
        case rel => exact ⟨i + 1, true, by omega, by omega, by go_num, rfl, Lib.hid (by rw [HTK.out, HX.out, HF.out, Bool.or_true]), rfl⟩
    obtain rfl : i = n := by omega
    have x1 : ¬ (i : Int) < i := by omega
    have HXA := Lib.hid (show hasL a e x = X from by have h_ := HX.out; rw [List.take_of_length_le (Nat.le_of_eq HLA.out)] at h_; exact h_)
    clear HX hik hlt hi
    obtain ⟨Y, hY⟩ : ∃ q, hasL b e x = q := ⟨_, rfl⟩
    have HYB := Lib.hid hY
    clear hY
    go_upto_region 9 with fail
    clear x1
    go_wp2_with fail
    refine (osn_has (b) B m d e x wr HSb.out HCb.out (by have := HNb.out; omega)).mono ?_
    rw [HYB.out]
    rintro r_ v1 ⟨rfl, hb⟩
    have HB := Lib.hid (HB.out.trans (hb.mono HB.out.size))
    have HSa := Lib.hid (HSa.out.under hb)
    have HSb := Lib.hid (HSb.out.under hb)
    clear hb
    have HHN := Lib.hid (show hasL (normL a) e x = X from by rw [norm_has]; exact HXA.out)
    have HHU := Lib.hid (show hasL (unionL a b) e x = (X || Y) from by rw [union_has, HXA.out, HYB.out])
    have HHM := Lib.hid (show hasL (minusL a b) e x = (X && !Y) from by rw [minus_has, HXA.out, HYB.out])
    have HHB := Lib.hid (show hasL (bothL a b) e x = (X && Y) from by rw [both_has, HXA.out, HYB.out])
    obtain ⟨bw, hbw⟩ : ∃ q, withinL a b = q := ⟨_, rfl⟩
    obtain ⟨bm, hbm⟩ : ∃ q, meetsL a b = q := ⟨_, rfl⟩
    have HW := Lib.hid hbw; have HM := Lib.hid hbm
    have HWX := Lib.hid (show bw = true → X = true → Y = true from fun h1 h2 => by rw [← HYB.out]; exact within_iff.1 (hbw.trans h1) e x (HXA.out.trans h2))
    have HMX := Lib.hid (show X = true → Y = true → bm = true from fun h1 h2 => by rw [← hbm]; exact meets_iff.2 ⟨e, x, HXA.out.trans h1, HYB.out.trans h2⟩)
    clear hbw hbm
    cases X with
    | false =>
      cases Y with
      | false =>
        have HHN := Lib.hid (show _ = false from HHN.out)
        have HHU := Lib.hid (show _ = false from HHU.out)
        have HHM := Lib.hid (show _ = false from HHM.out)
        have HHB := Lib.hid (show _ = false from HHB.out)
        go_wp2_with fail
        refine (osn_has (a) A i c e x v1 HSa.out HCa.out (by have := HNa.out; omega)).mono ?_
        rw [HXA.out]
        rintro r_ v2 ⟨rfl, hb⟩
        have HB := Lib.hid (HB.out.trans (hb.mono HB.out.size))
        have HSa := Lib.hid (HSa.out.under hb)
        have HSb := Lib.hid (HSb.out.under hb)
        clear hb
        go_wp2_with fail
        refine (osn_norm (a) A i c v2 HSa.out HCa.out (by have := HNa.out; omega)).mono ?_
        rintro r_ v3 ⟨X3, x3, rfl, hs_, hc_, hb⟩
        have HB := Lib.hid (HB.out.trans (hb.mono HB.out.size))
        have HSa := Lib.hid (HSa.out.under hb)
        have HSb := Lib.hid (HSb.out.under hb)
        clear hb
        obtain ⟨k3, hk_⟩ : ∃ k_, (normL a).length = k_ := ⟨_, rfl⟩
        rw [hk_] at hs_ hc_
        simp only [hk_]
        have HSx := Lib.hid hs_
        have HCx := Lib.hid hc_
        have HNx := Lib.hid (show k3 ≤ 4096 from by rw [← hk_]; have h_ := form_few a [] ⟨true, false, false⟩; have h2_ := HLa.out; have h3_ : ([] : List Sn3).length = 0 := rfl; unfold normL; omega)
        clear hs_ hc_ hk_
        go_wp2_with fail
        refine (osn_has (normL a) X3 k3 x3 e x v3 HSx.out HCx.out (by have := HNx.out; omega)).mono ?_
        rw [HHN.out]
        rintro r_ v4 ⟨rfl, hb⟩
        have HB := Lib.hid (HB.out.trans (hb.mono HB.out.size))
        have HSa := Lib.hid (HSa.out.under hb)
        have HSb := Lib.hid (HSb.out.under hb)
        have HSx := Lib.hid (HSx.out.under hb)
        clear hb
        clear HSx HCx HNx
        go_wp2_with fail
        refine (osn_union (a) (b) A B i c m d v4 HSa.out HSb.out HCa.out HCb.out (by have := HNa.out; omega) (by have := HNb.out; omega)).mono ?_
        rintro r_ v5 ⟨X5, x5, rfl, hs_, hc_, hb⟩
        have HB := Lib.hid (HB.out.trans (hb.mono HB.out.size))
        have HSa := Lib.hid (HSa.out.under hb)
        have HSb := Lib.hid (HSb.out.under hb)
        clear hb
        obtain ⟨k5, hk_⟩ : ∃ k_, (unionL a b).length = k_ := ⟨_, rfl⟩
        rw [hk_] at hs_ hc_
        simp only [hk_]
        have HSx := Lib.hid hs_
        have HCx := Lib.hid hc_
        have HNx := Lib.hid (show k5 ≤ 4096 from by rw [← hk_]; have h_ := form_few a b ⟨true, true, true⟩; have h2_ := HLa.out; have h3_ := HLb.out; unfold unionL; omega)
        clear hs_ hc_ hk_
        go_wp2_with fail
        refine (osn_has (unionL a b) X5 k5 x5 e x v5 HSx.out HCx.out (by have := HNx.out; omega)).mono ?_
        rw [HHU.out]
        rintro r_ v6 ⟨rfl, hb⟩
        have HB := Lib.hid (HB.out.trans (hb.mono HB.out.size))
        have HSa := Lib.hid (HSa.out.under hb)
        have HSb := Lib.hid (HSb.out.under hb)
        have HSx := Lib.hid (HSx.out.under hb)
        clear hb
        clear HSx HCx HNx
        go_wp2_with fail
        refine (osn_minus (a) (b) A B i c m d v6 HSa.out HSb.out HCa.out HCb.out (by have := HNa.out; omega) (by have := HNb.out; omega)).mono ?_
        rintro r_ v7 ⟨X7, x7, rfl, hs_, hc_, hb⟩
        have HB := Lib.hid (HB.out.trans (hb.mono HB.out.size))
        have HSa := Lib.hid (HSa.out.under hb)
        have HSb := Lib.hid (HSb.out.under hb)
        clear hb
        obtain ⟨k7, hk_⟩ : ∃ k_, (minusL a b).length = k_ := ⟨_, rfl⟩
        rw [hk_] at hs_ hc_
        simp only [hk_]
        have HSx := Lib.hid hs_
        have HCx := Lib.hid hc_
        have HNx := Lib.hid (show k7 ≤ 4096 from by rw [← hk_]; have h_ := form_few a b ⟨true, false, false⟩; have h2_ := HLa.out; have h3_ := HLb.out; unfold minusL; omega)
        clear hs_ hc_ hk_
        go_wp2_with fail
        refine (osn_has (minusL a b) X7 k7 x7 e x v7 HSx.out HCx.out (by have := HNx.out; omega)).mono ?_
        rw [HHM.out]
        rintro r_ v8 ⟨rfl, hb⟩
        have HB := Lib.hid (HB.out.trans (hb.mono HB.out.size))
        have HSa := Lib.hid (HSa.out.under hb)
        have HSb := Lib.hid (HSb.out.under hb)
        have HSx := Lib.hid (HSx.out.under hb)
        clear hb
        clear HSx HCx HNx
        go_wp2_with fail
        refine (osn_both (a) (b) A B i c m d v8 HSa.out HSb.out HCa.out HCb.out (by have := HNa.out; omega) (by have := HNb.out; omega)).mono ?_
        rintro r_ v9 ⟨X9, x9, rfl, hs_, hc_, hb⟩
        have HB := Lib.hid (HB.out.trans (hb.mono HB.out.size))
        have HSa := Lib.hid (HSa.out.under hb)
        have HSb := Lib.hid (HSb.out.under hb)
        clear hb
        obtain ⟨k9, hk_⟩ : ∃ k_, (bothL a b).length = k_ := ⟨_, rfl⟩
        rw [hk_] at hs_ hc_
        simp only [hk_]
        have HSx := Lib.hid hs_
        have HCx := Lib.hid hc_
        have HNx := Lib.hid (show k9 ≤ 4096 from by rw [← hk_]; have h_ := form_few a b ⟨false, false, true⟩; have h2_ := HLa.out; have h3_ := HLb.out; unfold bothL; omega)
        clear hs_ hc_ hk_
        go_wp2_with fail
        refine (osn_has (bothL a b) X9 k9 x9 e x v9 HSx.out HCx.out (by have := HNx.out; omega)).mono ?_
        rw [HHB.out]
        rintro r_ v10 ⟨rfl, hb⟩
        have HB := Lib.hid (HB.out.trans (hb.mono HB.out.size))
        have HSa := Lib.hid (HSa.out.under hb)
        have HSb := Lib.hid (HSb.out.under hb)
        have HSx := Lib.hid (HSx.out.under hb)
        clear hb
        clear HSx HCx HNx
        clear HWX HMX
        cases bw with
        | false =>
          cases bm with
          | false =>
            go_wp2_with fail
            refine (osn_within (a) (b) A B i c m d v10 HSa.out HSb.out HCa.out HCb.out (by have := HNa.out; omega) (by have := HNb.out; omega)).mono ?_
            rw [HW.out]
            rintro r_ v11 ⟨rfl, hb⟩
            have HB := Lib.hid (HB.out.trans (hb.mono HB.out.size))
            have HSa := Lib.hid (HSa.out.under hb)
            have HSb := Lib.hid (HSb.out.under hb)
            clear hb
            go_wp2_with fail
            refine (osn_meets (a) (b) A B i c m d v11 HSa.out HSb.out HCa.out HCb.out (by have := HNa.out; omega) (by have := HNb.out; omega)).mono ?_
            rw [HM.out]
            rintro r_ v12 ⟨rfl, hb⟩
            have HB := Lib.hid (HB.out.trans (hb.mono HB.out.size))
            have HSa := Lib.hid (HSa.out.under hb)
            have HSb := Lib.hid (HSb.out.under hb)
            clear hb
            go_wp2
            go_ret
            exact ⟨by first | rfl | simp, HB.out⟩
          | true =>
            go_wp2_with fail
            refine (osn_within (a) (b) A B i c m d v10 HSa.out HSb.out HCa.out HCb.out (by have := HNa.out; omega) (by have := HNb.out; omega)).mono ?_
            rw [HW.out]
            rintro r_ v11 ⟨rfl, hb⟩
            have HB := Lib.hid (HB.out.trans (hb.mono HB.out.size))
            have HSa := Lib.hid (HSa.out.under hb)
            have HSb := Lib.hid (HSb.out.under hb)
            clear hb
            go_wp2_with fail
            refine (osn_meets (a) (b) A B i c m d v11 HSa.out HSb.out HCa.out HCb.out (by have := HNa.out; omega) (by have := HNb.out; omega)).mono ?_
            rw [HM.out]
            rintro r_ v12 ⟨rfl, hb⟩
            have HB := Lib.hid (HB.out.trans (hb.mono HB.out.size))
            have HSa := Lib.hid (HSa.out.under hb)
            have HSb := Lib.hid (HSb.out.under hb)
            clear hb
            go_wp2
            go_ret
            exact ⟨by first | rfl | simp, HB.out⟩
        | true =>
          cases bm with
          | false =>
            go_wp2_with fail
            refine (osn_within (a) (b) A B i c m d v10 HSa.out HSb.out HCa.out HCb.out (by have := HNa.out; omega) (by have := HNb.out; omega)).mono ?_
            rw [HW.out]
            rintro r_ v11 ⟨rfl, hb⟩
            have HB := Lib.hid (HB.out.trans (hb.mono HB.out.size))
            have HSa := Lib.hid (HSa.out.under hb)
            have HSb := Lib.hid (HSb.out.under hb)
            clear hb
            go_wp2_with fail
            refine (osn_meets (a) (b) A B i c m d v11 HSa.out HSb.out HCa.out HCb.out (by have := HNa.out; omega) (by have := HNb.out; omega)).mono ?_
            rw [HM.out]
            rintro r_ v12 ⟨rfl, hb⟩
            have HB := Lib.hid (HB.out.trans (hb.mono HB.out.size))
            have HSa := Lib.hid (HSa.out.under hb)
            have HSb := Lib.hid (HSb.out.under hb)
            clear hb
            go_wp2
            go_ret
            exact ⟨by first | rfl | simp, HB.out⟩
          | true =>
            go_wp2_with fail
            refine (osn_within (a) (b) A B i c m d v10 HSa.out HSb.out HCa.out HCb.out (by have := HNa.out; omega) (by have := HNb.out; omega)).mono ?_
            rw [HW.out]
            rintro r_ v11 ⟨rfl, hb⟩
            have HB := Lib.hid (HB.out.trans (hb.mono HB.out.size))
            have HSa := Lib.hid (HSa.out.under hb)
            have HSb := Lib.hid (HSb.out.under hb)
            clear hb
            go_wp2_with fail
            refine (osn_meets (a) (b) A B i c m d v11 HSa.out HSb.out HCa.out HCb.out (by have := HNa.out; omega) (by have := HNb.out; omega)).mono ?_
            rw [HM.out]
            rintro r_ v12 ⟨rfl, hb⟩
            have HB := Lib.hid (HB.out.trans (hb.mono HB.out.size))
            have HSa := Lib.hid (HSa.out.under hb)
            have HSb := Lib.hid (HSb.out.under hb)
            clear hb
            go_wp2
            go_ret
            exact ⟨by first | rfl | simp, HB.out⟩
      | true =>
        have HHN := Lib.hid (show _ = false from HHN.out)
        have HHU := Lib.hid (show _ = true from HHU.out)
        have HHM := Lib.hid (show _ = false from HHM.out)
        have HHB := Lib.hid (show _ = false from HHB.out)
        go_wp2_with fail
        refine (osn_has (a) A i c e x v1 HSa.out HCa.out (by have := HNa.out; omega)).mono ?_
        rw [HXA.out]
        rintro r_ v2 ⟨rfl, hb⟩
        have HB := Lib.hid (HB.out.trans (hb.mono HB.out.size))
        have HSa := Lib.hid (HSa.out.under hb)
        have HSb := Lib.hid (HSb.out.under hb)
        clear hb
        go_wp2_with fail
        refine (osn_norm (a) A i c v2 HSa.out HCa.out (by have := HNa.out; omega)).mono ?_
        rintro r_ v3 ⟨X3, x3, rfl, hs_, hc_, hb⟩
        have HB := Lib.hid (HB.out.trans (hb.mono HB.out.size))
        have HSa := Lib.hid (HSa.out.under hb)
        have HSb := Lib.hid (HSb.out.under hb)
        clear hb
        obtain ⟨k3, hk_⟩ : ∃ k_, (normL a).length = k_ := ⟨_, rfl⟩
        rw [hk_] at hs_ hc_
        simp only [hk_]
        have HSx := Lib.hid hs_
        have HCx := Lib.hid hc_
        have HNx := Lib.hid (show k3 ≤ 4096 from by rw [← hk_]; have h_ := form_few a [] ⟨true, false, false⟩; have h2_ := HLa.out; have h3_ : ([] : List Sn3).length = 0 := rfl; unfold normL; omega)
        clear hs_ hc_ hk_
        go_wp2_with fail
        refine (osn_has (normL a) X3 k3 x3 e x v3 HSx.out HCx.out (by have := HNx.out; omega)).mono ?_
        rw [HHN.out]
        rintro r_ v4 ⟨rfl, hb⟩
        have HB := Lib.hid (HB.out.trans (hb.mono HB.out.size))
        have HSa := Lib.hid (HSa.out.under hb)
        have HSb := Lib.hid (HSb.out.under hb)
        have HSx := Lib.hid (HSx.out.under hb)
        clear hb
        clear HSx HCx HNx
        go_wp2_with fail
        refine (osn_union (a) (b) A B i c m d v4 HSa.out HSb.out HCa.out HCb.out (by have := HNa.out; omega) (by have := HNb.out; omega)).mono ?_
        rintro r_ v5 ⟨X5, x5, rfl, hs_, hc_, hb⟩
        have HB := Lib.hid (HB.out.trans (hb.mono HB.out.size))
        have HSa := Lib.hid (HSa.out.under hb)
        have HSb := Lib.hid (HSb.out.under hb)
        clear hb
        obtain ⟨k5, hk_⟩ : ∃ k_, (unionL a b).length = k_ := ⟨_, rfl⟩
        rw [hk_] at hs_ hc_
        simp only [hk_]
        have HSx := Lib.hid hs_
        have HCx := Lib.hid hc_
        have HNx := Lib.hid (show k5 ≤ 4096 from by rw [← hk_]; have h_ := form_few a b ⟨true, true, true⟩; have h2_ := HLa.out; have h3_ := HLb.out; unfold unionL; omega)
        clear hs_ hc_ hk_
        go_wp2_with fail
        refine (osn_has (unionL a b) X5 k5 x5 e x v5 HSx.out HCx.out (by have := HNx.out; omega)).mono ?_
        rw [HHU.out]
        rintro r_ v6 ⟨rfl, hb⟩
        have HB := Lib.hid (HB.out.trans (hb.mono HB.out.size))
        have HSa := Lib.hid (HSa.out.under hb)
        have HSb := Lib.hid (HSb.out.under hb)
        have HSx := Lib.hid (HSx.out.under hb)
        clear hb
        clear HSx HCx HNx
        go_wp2_with fail
        refine (osn_minus (a) (b) A B i c m d v6 HSa.out HSb.out HCa.out HCb.out (by have := HNa.out; omega) (by have := HNb.out; omega)).mono ?_
        rintro r_ v7 ⟨X7, x7, rfl, hs_, hc_, hb⟩
        have HB := Lib.hid (HB.out.trans (hb.mono HB.out.size))
        have HSa := Lib.hid (HSa.out.under hb)
        have HSb := Lib.hid (HSb.out.under hb)
        clear hb
        obtain ⟨k7, hk_⟩ : ∃ k_, (minusL a b).length = k_ := ⟨_, rfl⟩
        rw [hk_] at hs_ hc_
        simp only [hk_]
        have HSx := Lib.hid hs_
        have HCx := Lib.hid hc_
        have HNx := Lib.hid (show k7 ≤ 4096 from by rw [← hk_]; have h_ := form_few a b ⟨true, false, false⟩; have h2_ := HLa.out; have h3_ := HLb.out; unfold minusL; omega)
        clear hs_ hc_ hk_
        go_wp2_with fail
        refine (osn_has (minusL a b) X7 k7 x7 e x v7 HSx.out HCx.out (by have := HNx.out; omega)).mono ?_
        rw [HHM.out]
        rintro r_ v8 ⟨rfl, hb⟩
        have HB := Lib.hid (HB.out.trans (hb.mono HB.out.size))
        have HSa := Lib.hid (HSa.out.under hb)
        have HSb := Lib.hid (HSb.out.under hb)
        have HSx := Lib.hid (HSx.out.under hb)
        clear hb
        clear HSx HCx HNx
        go_wp2_with fail
        refine (osn_both (a) (b) A B i c m d v8 HSa.out HSb.out HCa.out HCb.out (by have := HNa.out; omega) (by have := HNb.out; omega)).mono ?_
        rintro r_ v9 ⟨X9, x9, rfl, hs_, hc_, hb⟩
        have HB := Lib.hid (HB.out.trans (hb.mono HB.out.size))
        have HSa := Lib.hid (HSa.out.under hb)
        have HSb := Lib.hid (HSb.out.under hb)
        clear hb
        obtain ⟨k9, hk_⟩ : ∃ k_, (bothL a b).length = k_ := ⟨_, rfl⟩
        rw [hk_] at hs_ hc_
        simp only [hk_]
        have HSx := Lib.hid hs_
        have HCx := Lib.hid hc_
        have HNx := Lib.hid (show k9 ≤ 4096 from by rw [← hk_]; have h_ := form_few a b ⟨false, false, true⟩; have h2_ := HLa.out; have h3_ := HLb.out; unfold bothL; omega)
        clear hs_ hc_ hk_
        go_wp2_with fail
        refine (osn_has (bothL a b) X9 k9 x9 e x v9 HSx.out HCx.out (by have := HNx.out; omega)).mono ?_
        rw [HHB.out]
        rintro r_ v10 ⟨rfl, hb⟩
        have HB := Lib.hid (HB.out.trans (hb.mono HB.out.size))
        have HSa := Lib.hid (HSa.out.under hb)
        have HSb := Lib.hid (HSb.out.under hb)
        have HSx := Lib.hid (HSx.out.under hb)
        clear hb
        clear HSx HCx HNx
        clear HWX HMX
        cases bw with
        | false =>
          cases bm with
          | false =>
            go_wp2_with fail
            refine (osn_within (a) (b) A B i c m d v10 HSa.out HSb.out HCa.out HCb.out (by have := HNa.out; omega) (by have := HNb.out; omega)).mono ?_
            rw [HW.out]
            rintro r_ v11 ⟨rfl, hb⟩
            have HB := Lib.hid (HB.out.trans (hb.mono HB.out.size))
            have HSa := Lib.hid (HSa.out.under hb)
            have HSb := Lib.hid (HSb.out.under hb)
            clear hb
            go_wp2_with fail
            refine (osn_meets (a) (b) A B i c m d v11 HSa.out HSb.out HCa.out HCb.out (by have := HNa.out; omega) (by have := HNb.out; omega)).mono ?_
            rw [HM.out]
            rintro r_ v12 ⟨rfl, hb⟩
            have HB := Lib.hid (HB.out.trans (hb.mono HB.out.size))
            have HSa := Lib.hid (HSa.out.under hb)
            have HSb := Lib.hid (HSb.out.under hb)
            clear hb
            go_wp2
            go_ret
            exact ⟨by first | rfl | simp, HB.out⟩
          | true =>
            go_wp2_with fail
            refine (osn_within (a) (b) A B i c m d v10 HSa.out HSb.out HCa.out HCb.out (by have := HNa.out; omega) (by have := HNb.out; omega)).mono ?_
            rw [HW.out]
            rintro r_ v11 ⟨rfl, hb⟩
            have HB := Lib.hid (HB.out.trans (hb.mono HB.out.size))
            have HSa := Lib.hid (HSa.out.under hb)
            have HSb := Lib.hid (HSb.out.under hb)
            clear hb
            go_wp2_with fail
            refine (osn_meets (a) (b) A B i c m d v11 HSa.out HSb.out HCa.out HCb.out (by have := HNa.out; omega) (by have := HNb.out; omega)).mono ?_
            rw [HM.out]
            rintro r_ v12 ⟨rfl, hb⟩
            have HB := Lib.hid (HB.out.trans (hb.mono HB.out.size))
            have HSa := Lib.hid (HSa.out.under hb)
            have HSb := Lib.hid (HSb.out.under hb)
            clear hb
            go_wp2
            go_ret
            exact ⟨by first | rfl | simp, HB.out⟩
        | true =>
          cases bm with
          | false =>
            go_wp2_with fail
            refine (osn_within (a) (b) A B i c m d v10 HSa.out HSb.out HCa.out HCb.out (by have := HNa.out; omega) (by have := HNb.out; omega)).mono ?_
            rw [HW.out]
            rintro r_ v11 ⟨rfl, hb⟩
            have HB := Lib.hid (HB.out.trans (hb.mono HB.out.size))
            have HSa := Lib.hid (HSa.out.under hb)
            have HSb := Lib.hid (HSb.out.under hb)
            clear hb
            go_wp2_with fail
            refine (osn_meets (a) (b) A B i c m d v11 HSa.out HSb.out HCa.out HCb.out (by have := HNa.out; omega) (by have := HNb.out; omega)).mono ?_
            rw [HM.out]
            rintro r_ v12 ⟨rfl, hb⟩
            have HB := Lib.hid (HB.out.trans (hb.mono HB.out.size))
            have HSa := Lib.hid (HSa.out.under hb)
            have HSb := Lib.hid (HSb.out.under hb)
            clear hb
            go_wp2
            go_ret
            exact ⟨by first | rfl | simp, HB.out⟩
          | true =>
            go_wp2_with fail
            refine (osn_within (a) (b) A B i c m d v10 HSa.out HSb.out HCa.out HCb.out (by have := HNa.out; omega) (by have := HNb.out; omega)).mono ?_
            rw [HW.out]
            rintro r_ v11 ⟨rfl, hb⟩
            have HB := Lib.hid (HB.out.trans (hb.mono HB.out.size))
            have HSa := Lib.hid (HSa.out.under hb)
            have HSb := Lib.hid (HSb.out.under hb)
            clear hb
            go_wp2_with fail
            refine (osn_meets (a) (b) A B i c m d v11 HSa.out HSb.out HCa.out HCb.out (by have := HNa.out; omega) (by have := HNb.out; omega)).mono ?_
            rw [HM.out]
            rintro r_ v12 ⟨rfl, hb⟩
            have HB := Lib.hid (HB.out.trans (hb.mono HB.out.size))
            have HSa := Lib.hid (HSa.out.under hb)
            have HSb := Lib.hid (HSb.out.under hb)
            clear hb
            go_wp2
            go_ret
            exact ⟨by first | rfl | simp, HB.out⟩
    | true =>
      cases Y with
      | false =>
        have HHN := Lib.hid (show _ = true from HHN.out)
        have HHU := Lib.hid (show _ = true from HHU.out)
        have HHM := Lib.hid (show _ = true from HHM.out)
        have HHB := Lib.hid (show _ = false from HHB.out)
        go_wp2_with fail
        refine (osn_has (a) A i c e x v1 HSa.out HCa.out (by have := HNa.out; omega)).mono ?_
        rw [HXA.out]
        rintro r_ v2 ⟨rfl, hb⟩
        have HB := Lib.hid (HB.out.trans (hb.mono HB.out.size))
        have HSa := Lib.hid (HSa.out.under hb)
        have HSb := Lib.hid (HSb.out.under hb)
        clear hb
        go_wp2_with fail
        refine (osn_norm (a) A i c v2 HSa.out HCa.out (by have := HNa.out; omega)).mono ?_
        rintro r_ v3 ⟨X3, x3, rfl, hs_, hc_, hb⟩
        have HB := Lib.hid (HB.out.trans (hb.mono HB.out.size))
        have HSa := Lib.hid (HSa.out.under hb)
        have HSb := Lib.hid (HSb.out.under hb)
        clear hb
        obtain ⟨k3, hk_⟩ : ∃ k_, (normL a).length = k_ := ⟨_, rfl⟩
        rw [hk_] at hs_ hc_
        simp only [hk_]
        have HSx := Lib.hid hs_
        have HCx := Lib.hid hc_
        have HNx := Lib.hid (show k3 ≤ 4096 from by rw [← hk_]; have h_ := form_few a [] ⟨true, false, false⟩; have h2_ := HLa.out; have h3_ : ([] : List Sn3).length = 0 := rfl; unfold normL; omega)
        clear hs_ hc_ hk_
        go_wp2_with fail
        refine (osn_has (normL a) X3 k3 x3 e x v3 HSx.out HCx.out (by have := HNx.out; omega)).mono ?_
        rw [HHN.out]
        rintro r_ v4 ⟨rfl, hb⟩
        have HB := Lib.hid (HB.out.trans (hb.mono HB.out.size))
        have HSa := Lib.hid (HSa.out.under hb)
        have HSb := Lib.hid (HSb.out.under hb)
        have HSx := Lib.hid (HSx.out.under hb)
        clear hb
        clear HSx HCx HNx
        go_wp2_with fail
        refine (osn_union (a) (b) A B i c m d v4 HSa.out HSb.out HCa.out HCb.out (by have := HNa.out; omega) (by have := HNb.out; omega)).mono ?_
        rintro r_ v5 ⟨X5, x5, rfl, hs_, hc_, hb⟩
        have HB := Lib.hid (HB.out.trans (hb.mono HB.out.size))
        have HSa := Lib.hid (HSa.out.under hb)
        have HSb := Lib.hid (HSb.out.under hb)
        clear hb
        obtain ⟨k5, hk_⟩ : ∃ k_, (unionL a b).length = k_ := ⟨_, rfl⟩
        rw [hk_] at hs_ hc_
        simp only [hk_]
        have HSx := Lib.hid hs_
        have HCx := Lib.hid hc_
        have HNx := Lib.hid (show k5 ≤ 4096 from by rw [← hk_]; have h_ := form_few a b ⟨true, true, true⟩; have h2_ := HLa.out; have h3_ := HLb.out; unfold unionL; omega)
        clear hs_ hc_ hk_
        go_wp2_with fail
        refine (osn_has (unionL a b) X5 k5 x5 e x v5 HSx.out HCx.out (by have := HNx.out; omega)).mono ?_
        rw [HHU.out]
        rintro r_ v6 ⟨rfl, hb⟩
        have HB := Lib.hid (HB.out.trans (hb.mono HB.out.size))
        have HSa := Lib.hid (HSa.out.under hb)
        have HSb := Lib.hid (HSb.out.under hb)
        have HSx := Lib.hid (HSx.out.under hb)
        clear hb
        clear HSx HCx HNx
        go_wp2_with fail
        refine (osn_minus (a) (b) A B i c m d v6 HSa.out HSb.out HCa.out HCb.out (by have := HNa.out; omega) (by have := HNb.out; omega)).mono ?_
        rintro r_ v7 ⟨X7, x7, rfl, hs_, hc_, hb⟩
        have HB := Lib.hid (HB.out.trans (hb.mono HB.out.size))
        have HSa := Lib.hid (HSa.out.under hb)
        have HSb := Lib.hid (HSb.out.under hb)
        clear hb
        obtain ⟨k7, hk_⟩ : ∃ k_, (minusL a b).length = k_ := ⟨_, rfl⟩
        rw [hk_] at hs_ hc_
        simp only [hk_]
        have HSx := Lib.hid hs_
        have HCx := Lib.hid hc_
        have HNx := Lib.hid (show k7 ≤ 4096 from by rw [← hk_]; have h_ := form_few a b ⟨true, false, false⟩; have h2_ := HLa.out; have h3_ := HLb.out; unfold minusL; omega)
        clear hs_ hc_ hk_
        go_wp2_with fail
        refine (osn_has (minusL a b) X7 k7 x7 e x v7 HSx.out HCx.out (by have := HNx.out; omega)).mono ?_
        rw [HHM.out]
        rintro r_ v8 ⟨rfl, hb⟩
        have HB := Lib.hid (HB.out.trans (hb.mono HB.out.size))
        have HSa := Lib.hid (HSa.out.under hb)
        have HSb := Lib.hid (HSb.out.under hb)
        have HSx := Lib.hid (HSx.out.under hb)
        clear hb
        clear HSx HCx HNx
        go_wp2_with fail
        refine (osn_both (a) (b) A B i c m d v8 HSa.out HSb.out HCa.out HCb.out (by have := HNa.out; omega) (by have := HNb.out; omega)).mono ?_
        rintro r_ v9 ⟨X9, x9, rfl, hs_, hc_, hb⟩
        have HB := Lib.hid (HB.out.trans (hb.mono HB.out.size))
        have HSa := Lib.hid (HSa.out.under hb)
        have HSb := Lib.hid (HSb.out.under hb)
        clear hb
        obtain ⟨k9, hk_⟩ : ∃ k_, (bothL a b).length = k_ := ⟨_, rfl⟩
        rw [hk_] at hs_ hc_
        simp only [hk_]
        have HSx := Lib.hid hs_
        have HCx := Lib.hid hc_
        have HNx := Lib.hid (show k9 ≤ 4096 from by rw [← hk_]; have h_ := form_few a b ⟨false, false, true⟩; have h2_ := HLa.out; have h3_ := HLb.out; unfold bothL; omega)
        clear hs_ hc_ hk_
        go_wp2_with fail
        refine (osn_has (bothL a b) X9 k9 x9 e x v9 HSx.out HCx.out (by have := HNx.out; omega)).mono ?_
        rw [HHB.out]
        rintro r_ v10 ⟨rfl, hb⟩
        have HB := Lib.hid (HB.out.trans (hb.mono HB.out.size))
        have HSa := Lib.hid (HSa.out.under hb)
        have HSb := Lib.hid (HSb.out.under hb)
        have HSx := Lib.hid (HSx.out.under hb)
        clear hb
        clear HSx HCx HNx
        have hbw : bw = false := by cases bw with | false => rfl | true => exact (by have h_ := HWX.out; simp at h_)
        subst hbw
        clear HWX HMX
        cases bm with
        | false =>
          go_wp2_with fail
          refine (osn_within (a) (b) A B i c m d v10 HSa.out HSb.out HCa.out HCb.out (by have := HNa.out; omega) (by have := HNb.out; omega)).mono ?_
          rw [HW.out]
          rintro r_ v11 ⟨rfl, hb⟩
          have HB := Lib.hid (HB.out.trans (hb.mono HB.out.size))
          have HSa := Lib.hid (HSa.out.under hb)
          have HSb := Lib.hid (HSb.out.under hb)
          clear hb
          go_wp2_with fail
          refine (osn_meets (a) (b) A B i c m d v11 HSa.out HSb.out HCa.out HCb.out (by have := HNa.out; omega) (by have := HNb.out; omega)).mono ?_
          rw [HM.out]
          rintro r_ v12 ⟨rfl, hb⟩
          have HB := Lib.hid (HB.out.trans (hb.mono HB.out.size))
          have HSa := Lib.hid (HSa.out.under hb)
          have HSb := Lib.hid (HSb.out.under hb)
          clear hb
          go_wp2
          go_ret
          exact ⟨by first | rfl | simp, HB.out⟩
        | true =>
          go_wp2_with fail
          refine (osn_within (a) (b) A B i c m d v10 HSa.out HSb.out HCa.out HCb.out (by have := HNa.out; omega) (by have := HNb.out; omega)).mono ?_
          rw [HW.out]
          rintro r_ v11 ⟨rfl, hb⟩
          have HB := Lib.hid (HB.out.trans (hb.mono HB.out.size))
          have HSa := Lib.hid (HSa.out.under hb)
          have HSb := Lib.hid (HSb.out.under hb)
          clear hb
          go_wp2_with fail
          refine (osn_meets (a) (b) A B i c m d v11 HSa.out HSb.out HCa.out HCb.out (by have := HNa.out; omega) (by have := HNb.out; omega)).mono ?_
          rw [HM.out]
          rintro r_ v12 ⟨rfl, hb⟩
          have HB := Lib.hid (HB.out.trans (hb.mono HB.out.size))
          have HSa := Lib.hid (HSa.out.under hb)
          have HSb := Lib.hid (HSb.out.under hb)
          clear hb
          go_wp2
          go_ret
          exact ⟨by first | rfl | simp, HB.out⟩
      | true =>
        have HHN := Lib.hid (show _ = true from HHN.out)
        have HHU := Lib.hid (show _ = true from HHU.out)
        have HHM := Lib.hid (show _ = false from HHM.out)
        have HHB := Lib.hid (show _ = true from HHB.out)
        go_wp2_with fail
        refine (osn_has (a) A i c e x v1 HSa.out HCa.out (by have := HNa.out; omega)).mono ?_
        rw [HXA.out]
        rintro r_ v2 ⟨rfl, hb⟩
        have HB := Lib.hid (HB.out.trans (hb.mono HB.out.size))
        have HSa := Lib.hid (HSa.out.under hb)
        have HSb := Lib.hid (HSb.out.under hb)
        clear hb
        go_wp2_with fail
        refine (osn_norm (a) A i c v2 HSa.out HCa.out (by have := HNa.out; omega)).mono ?_
        rintro r_ v3 ⟨X3, x3, rfl, hs_, hc_, hb⟩
        have HB := Lib.hid (HB.out.trans (hb.mono HB.out.size))
        have HSa := Lib.hid (HSa.out.under hb)
        have HSb := Lib.hid (HSb.out.under hb)
        clear hb
        obtain ⟨k3, hk_⟩ : ∃ k_, (normL a).length = k_ := ⟨_, rfl⟩
        rw [hk_] at hs_ hc_
        simp only [hk_]
        have HSx := Lib.hid hs_
        have HCx := Lib.hid hc_
        have HNx := Lib.hid (show k3 ≤ 4096 from by rw [← hk_]; have h_ := form_few a [] ⟨true, false, false⟩; have h2_ := HLa.out; have h3_ : ([] : List Sn3).length = 0 := rfl; unfold normL; omega)
        clear hs_ hc_ hk_
        go_wp2_with fail
        refine (osn_has (normL a) X3 k3 x3 e x v3 HSx.out HCx.out (by have := HNx.out; omega)).mono ?_
        rw [HHN.out]
        rintro r_ v4 ⟨rfl, hb⟩
        have HB := Lib.hid (HB.out.trans (hb.mono HB.out.size))
        have HSa := Lib.hid (HSa.out.under hb)
        have HSb := Lib.hid (HSb.out.under hb)
        have HSx := Lib.hid (HSx.out.under hb)
        clear hb
        clear HSx HCx HNx
        go_wp2_with fail
        refine (osn_union (a) (b) A B i c m d v4 HSa.out HSb.out HCa.out HCb.out (by have := HNa.out; omega) (by have := HNb.out; omega)).mono ?_
        rintro r_ v5 ⟨X5, x5, rfl, hs_, hc_, hb⟩
        have HB := Lib.hid (HB.out.trans (hb.mono HB.out.size))
        have HSa := Lib.hid (HSa.out.under hb)
        have HSb := Lib.hid (HSb.out.under hb)
        clear hb
        obtain ⟨k5, hk_⟩ : ∃ k_, (unionL a b).length = k_ := ⟨_, rfl⟩
        rw [hk_] at hs_ hc_
        simp only [hk_]
        have HSx := Lib.hid hs_
        have HCx := Lib.hid hc_
        have HNx := Lib.hid (show k5 ≤ 4096 from by rw [← hk_]; have h_ := form_few a b ⟨true, true, true⟩; have h2_ := HLa.out; have h3_ := HLb.out; unfold unionL; omega)
        clear hs_ hc_ hk_
        go_wp2_with fail
        refine (osn_has (unionL a b) X5 k5 x5 e x v5 HSx.out HCx.out (by have := HNx.out; omega)).mono ?_
        rw [HHU.out]
        rintro r_ v6 ⟨rfl, hb⟩
        have HB := Lib.hid (HB.out.trans (hb.mono HB.out.size))
        have HSa := Lib.hid (HSa.out.under hb)
        have HSb := Lib.hid (HSb.out.under hb)
        have HSx := Lib.hid (HSx.out.under hb)
        clear hb
        clear HSx HCx HNx
        go_wp2_with fail
        refine (osn_minus (a) (b) A B i c m d v6 HSa.out HSb.out HCa.out HCb.out (by have := HNa.out; omega) (by have := HNb.out; omega)).mono ?_
        rintro r_ v7 ⟨X7, x7, rfl, hs_, hc_, hb⟩
        have HB := Lib.hid (HB.out.trans (hb.mono HB.out.size))
        have HSa := Lib.hid (HSa.out.under hb)
        have HSb := Lib.hid (HSb.out.under hb)
        clear hb
        obtain ⟨k7, hk_⟩ : ∃ k_, (minusL a b).length = k_ := ⟨_, rfl⟩
        rw [hk_] at hs_ hc_
        simp only [hk_]
        have HSx := Lib.hid hs_
        have HCx := Lib.hid hc_
        have HNx := Lib.hid (show k7 ≤ 4096 from by rw [← hk_]; have h_ := form_few a b ⟨true, false, false⟩; have h2_ := HLa.out; have h3_ := HLb.out; unfold minusL; omega)
        clear hs_ hc_ hk_
        go_wp2_with fail
        refine (osn_has (minusL a b) X7 k7 x7 e x v7 HSx.out HCx.out (by have := HNx.out; omega)).mono ?_
        rw [HHM.out]
        rintro r_ v8 ⟨rfl, hb⟩
        have HB := Lib.hid (HB.out.trans (hb.mono HB.out.size))
        have HSa := Lib.hid (HSa.out.under hb)
        have HSb := Lib.hid (HSb.out.under hb)
        have HSx := Lib.hid (HSx.out.under hb)
        clear hb
        clear HSx HCx HNx
        go_wp2_with fail
        refine (osn_both (a) (b) A B i c m d v8 HSa.out HSb.out HCa.out HCb.out (by have := HNa.out; omega) (by have := HNb.out; omega)).mono ?_
        rintro r_ v9 ⟨X9, x9, rfl, hs_, hc_, hb⟩
        have HB := Lib.hid (HB.out.trans (hb.mono HB.out.size))
        have HSa := Lib.hid (HSa.out.under hb)
        have HSb := Lib.hid (HSb.out.under hb)
        clear hb
        obtain ⟨k9, hk_⟩ : ∃ k_, (bothL a b).length = k_ := ⟨_, rfl⟩
        rw [hk_] at hs_ hc_
        simp only [hk_]
        have HSx := Lib.hid hs_
        have HCx := Lib.hid hc_
        have HNx := Lib.hid (show k9 ≤ 4096 from by rw [← hk_]; have h_ := form_few a b ⟨false, false, true⟩; have h2_ := HLa.out; have h3_ := HLb.out; unfold bothL; omega)
        clear hs_ hc_ hk_
        go_wp2_with fail
        refine (osn_has (bothL a b) X9 k9 x9 e x v9 HSx.out HCx.out (by have := HNx.out; omega)).mono ?_
        rw [HHB.out]
        rintro r_ v10 ⟨rfl, hb⟩
        have HB := Lib.hid (HB.out.trans (hb.mono HB.out.size))
        have HSa := Lib.hid (HSa.out.under hb)
        have HSb := Lib.hid (HSb.out.under hb)
        have HSx := Lib.hid (HSx.out.under hb)
        clear hb
        clear HSx HCx HNx
        have hbm : bm = true := by have h_ := HMX.out; simpa using h_
        subst hbm
        clear HWX HMX
        cases bw with
        | false =>
          go_wp2_with fail
          refine (osn_within (a) (b) A B i c m d v10 HSa.out HSb.out HCa.out HCb.out (by have := HNa.out; omega) (by have := HNb.out; omega)).mono ?_
          rw [HW.out]
          rintro r_ v11 ⟨rfl, hb⟩
          have HB := Lib.hid (HB.out.trans (hb.mono HB.out.size))
          have HSa := Lib.hid (HSa.out.under hb)
          have HSb := Lib.hid (HSb.out.under hb)
          clear hb
          go_wp2_with fail
          refine (osn_meets (a) (b) A B i c m d v11 HSa.out HSb.out HCa.out HCb.out (by have := HNa.out; omega) (by have := HNb.out; omega)).mono ?_
          rw [HM.out]
          rintro r_ v12 ⟨rfl, hb⟩
          have HB := Lib.hid (HB.out.trans (hb.mono HB.out.size))
          have HSa := Lib.hid (HSa.out.under hb)
          have HSb := Lib.hid (HSb.out.under hb)
          clear hb
          go_wp2
          go_ret
          exact ⟨by first | rfl | simp, HB.out⟩
        | true =>
          go_wp2_with fail
          refine (osn_within (a) (b) A B i c m d v10 HSa.out HSb.out HCa.out HCb.out (by have := HNa.out; omega) (by have := HNb.out; omega)).mono ?_
          rw [HW.out]
          rintro r_ v11 ⟨rfl, hb⟩
          have HB := Lib.hid (HB.out.trans (hb.mono HB.out.size))
          have HSa := Lib.hid (HSa.out.under hb)
          have HSb := Lib.hid (HSb.out.under hb)
          clear hb
          go_wp2_with fail
          refine (osn_meets (a) (b) A B i c m d v11 HSa.out HSb.out HCa.out HCb.out (by have := HNa.out; omega) (by have := HNb.out; omega)).mono ?_
          rw [HM.out]
          rintro r_ v12 ⟨rfl, hb⟩
          have HB := Lib.hid (HB.out.trans (hb.mono HB.out.size))
          have HSa := Lib.hid (HSa.out.under hb)
          have HSb := Lib.hid (HSb.out.under hb)
          clear hb
          go_wp2
          go_ret
          exact ⟨by first | rfl | simp, HB.out⟩

end Go.Proofs.Ytdkfphjcdcjbpaa
