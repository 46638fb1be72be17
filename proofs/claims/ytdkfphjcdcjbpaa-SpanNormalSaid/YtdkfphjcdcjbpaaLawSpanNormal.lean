/-
  linesidelaw15: normal, SpanNormal.
-/
import Derived.Test.YtdkfphjcdcjbpaaLawAwake15

import Derived.BigQuiet

import Derived.IntWalk

namespace Go.Proofs.Ytdkfphjcdcjbpaa

open Go.RowKit

open Go.Great

theorem norm_next {l : List Sn3} (h : normP l) {i : Nat} {x y : Sn3} (hx : l[i]? = some x) (hy : l[i + 1]? = some y) : aheadN x y := by
  obtain ⟨h1, e1⟩ := List.getElem?_eq_some_iff.1 hx
  obtain ⟨h2, e2⟩ := List.getElem?_eq_some_iff.1 hy
  have := List.pairwise_iff_getElem.1 h.2 i (i + 1) h1 h2 (by omega)
  rw [e1, e2] at this
  exact this

set_option maxRecDepth 100000 in
set_option maxHeartbeats 8000000 in
theorem normal_any (l : List Sn3) (hl : normP l) (A : Option Addr) (n c : Nat) (w : World) (hs : SlO snC 3 w A n c l) (hn : n ≤ 1048576) :
    Calls Try.prog 29 #[.slice A n c] w fun r w' => r = .returned (.bool true) ∧ Below w.heap.size w w' := by
  have HL := Lib.hid hs.1
  have HS := Lib.hid (fun W (hW : Below w.heap.size w W) => hs.under hW)
  have HP := Lib.hid hl
  clear hs hl
  go_enter Try.func29, Try.ntmps29
  go_wp2
  go_loopg [3] n (fun kk v3 wl => ∃ i : Nat, i ≤ n ∧ n - i ≤ kk ∧ v3 = .int .i64 i ∧ Hid (Below w.heap.size w wl))
  case atStart => exact ⟨0, by omega, by omega, rfl, Lib.hid (Below.refl _ _)⟩
  case round =>
    obtain ⟨i, hi, hik, rfl, HB⟩ := hrel
    by_cases hlt : i < n
    rotate_left
    · have x1 : ¬ (i : Int) < n := by omega
      go_wp2
      go_ret
      exact ⟨rfl, HB.out⟩
    obtain ⟨s, hs⟩ : ∃ s, l[i]? = some s := ⟨_, List.getElem?_eq_getElem (by rw [HL.out]; omega)⟩
    have HX := Lib.hid hs
    obtain ⟨bk, off, rfl, d0, d1, d2⟩ := (HS.out wr HB.out).span hs
    have hok := HP.out.1 s (List.mem_of_getElem? hs)
    have HOK := Lib.hid hok
    clear hs hok
    have x1 : (i : Int) < n := by omega
    have x2 : (0 : Int) ≤ i := by omega
    obtain ⟨se, sl, sh⟩ := s
    have hk := HOK.out
    unfold okN at hk
    dsimp only at *
    obtain ⟨k1, hk1⟩ : ∃ k1, k1 = gk := ⟨_, rfl⟩
    subst hk1
    obtain ⟨wv, hwv⟩ : ∃ wv, wv = wr := ⟨_, rfl⟩
    subst hwv
    go_upto_region 5 with fail
    obtain ⟨wb, hwb⟩ : ∃ wb, wv.alloc (.cells #[.int .i64 se, .int .i64 sl, .int .i64 sh] 41) = wb := ⟨_, rfl⟩
    rw [hwb]
    have HBN := Lib.hid (show Below w.heap.size w wb from by rw [← hwb]; exact HB.out.alloc HB.out.size _)
    have hh : Has wb wv.heap.size 41 #[.int .i64 se, .int .i64 sl, .int .i64 sh] := by rw [← hwb]; exact Has.made _ _ _
    have g0 : wb.cell? ⟨wv.heap.size, 0, none⟩ = some (.int .i64 se) := hh.cell 0
    have g1 : wb.cell? ⟨wv.heap.size, 1, none⟩ = some (.int .i64 sl) := hh.cell 1
    have g2 : wb.cell? ⟨wv.heap.size, 2, none⟩ = some (.int .i64 sh) := hh.cell 2
    obtain ⟨gb, hgb⟩ : ∃ g, wv.heap.size = g := ⟨_, rfl⟩
    simp only [hgb] at g0 g1 g2 ⊢
    clear hh hwb hgb d0 d1 d2
    have y0 : ¬ se < 0 := by omega
    have y1 : ¬ sl < 0 := by omega
    have y2 : ¬ sh ≤ sl := by omega
    have y3 : ¬ (1000000 : Int) < sh := by omega
    clear hk
    go_upto_region 7 with fail
    clear y0 y1 y2 y3
    by_cases hi0 : i = 0
    · have z0 : ¬ (0 : Int) < i := by omega
      have z1 : decide (0 < i) = false := decide_eq_false (by omega)
      clear hi0
      go_quiet (fail)
      go_wp2
      go_roundg (k1 - 1)
      case measure => omega
      case rel => exact ⟨i + 1, by omega, by omega, by go_num, Lib.hid (by first | exact below_draws HBN.out _ | (rw [World.drewN_drewN]; exact below_draws HBN.out _))⟩
    obtain ⟨p, hp⟩ : ∃ s, l[i - 1]? = some s := ⟨_, List.getElem?_eq_getElem (by rw [HL.out]; omega)⟩
    have HA := Lib.hid (norm_next HP.out hp (by rw [show i - 1 + 1 = i by omega]; exact HX.out))
    obtain ⟨b_, o_, e_, f0, -, f2⟩ := (HS.out wb HBN.out).span hp
    injection e_ with e_
    injection e_ with e1_ e2_ _
    subst e1_ e2_
    obtain ⟨pe, pl, ph⟩ := p
    have ha := HA.out
    unfold aheadN at ha
    dsimp only at *
    have z0 : (0 : Int) < i := by omega
    have z1 : decide (0 < i) = true := decide_eq_true (by omega)
    have hw1 : IntKind.i64.wrap ((i : Int) - 1) = (i : Int) - 1 := by rw [IntKind.wrap_i64]; omega
    have hw2 : ((i : Int) - 1).toNat = i - 1 := by omega
    have w0 : (0 : Int) ≤ (i : Int) - 1 := by omega
    have w1 : (i : Int) - 1 < n := by omega
    have w2 : (1 : Int) ≤ i := by omega
    have v0 : ¬ se < pe := by rcases ha with h_ | ⟨h_, _⟩ <;> omega
    have v1 : decide (se < pe) = false := decide_eq_false v0
    clear hi0 hp
    by_cases hee : pe = se
    · have v2 : (pe == se) = true := by simp [hee]
      have v3 : ¬ sl ≤ ph := by rcases ha with h_ | ⟨_, h_⟩ <;> omega
      have v4 : decide (sl ≤ ph) = false := decide_eq_false v3
      have HEE := Lib.hid hee
      clear ha hee
      go_quiet (fail)
      go_wp2
      go_roundg (k1 - 1)
      case measure => omega
      case rel => exact ⟨i + 1, by omega, by omega, by go_num, Lib.hid (by first | exact below_draws HBN.out _ | (rw [World.drewN_drewN]; exact below_draws HBN.out _))⟩
    have v2 : (pe == se) = false := by simp [hee]
    have HEE := Lib.hid hee
    clear ha hee
    go_quiet (fail)
    go_wp2
    go_roundg (k1 - 1)
    case measure => omega
    case rel => exact ⟨i + 1, by omega, by omega, by go_num, Lib.hid (by first | exact below_draws HBN.out _ | (rw [World.drewN_drewN]; exact below_draws HBN.out _))⟩

set_option maxRecDepth 100000 in
set_option maxHeartbeats 20000000 in
theorem spanNormal_walk (A : Option Addr) (n c : Nat) (a : List Sn3) (B : Option Addr) (m d : Nat) (b : List Sn3) (w : World) (ha : SlO snC 3 w A n c a) (hnc : n ≤ c) (hb : SlO snC 3 w B m d b) (hmd : m ≤ d) :
    Calls Try.prog 6 #[.slice A n c, .slice B m d] w fun e w' => e = .returned (.bool true) ∧ Below w.heap.size w w' := by
  have HLA := Lib.hid ha.1
  have HLB := Lib.hid hb.1
  have HSa := Lib.hid ha
  have HCa := Lib.hid hnc
  have HSb := Lib.hid hb
  have HCb := Lib.hid hmd
  have HB := Lib.hid (Below.refl w.heap.size w)
  clear ha hnc hb hmd
  go_enter Try.func6, Try.ntmps6
  go_wp2_with fail
  refine (awake15_any w).mono ?_
  rintro r_ w1 ⟨rfl, hb⟩
  have HB := Lib.hid (HB.out.trans (hb.mono HB.out.size))
  have HSa := Lib.hid (HSa.out.under hb)
  have HSb := Lib.hid (HSb.out.under hb)
  clear hb
  by_cases z0 : 200 < n
  · have x1_ : (200 : Int) < n := by omega
    go_wp2
    go_ret
    exact ⟨by first | rfl | simp, HB.out⟩
  have z0_ : ¬ (200 : Int) < n := by omega
  by_cases z1 : 200 < m
  · have x1_ : (200 : Int) < m := by omega
    go_wp2
    go_ret
    exact ⟨by first | rfl | simp, HB.out⟩
  have z1_ : ¬ (200 : Int) < m := by omega
  have HNa := Lib.hid (show n ≤ 4096 by omega)
  have HNb := Lib.hid (show m ≤ 4096 by omega)
  have HLa := Lib.hid (show a.length ≤ 200 from by have h_ := HLA.out; omega)
  have HLb := Lib.hid (show b.length ≤ 200 from by have h_ := HLB.out; omega)
  go_upto_region 4 with fail
  clear z0 z0_ z1 z1_
  go_wp2_with fail
  refine (osn_norm (a) A n c w1 HSa.out HCa.out (by have := HNa.out; omega)).mono ?_
  rintro r_ v1 ⟨X1, x1, rfl, hs_, hc_, hb⟩
  have HB := Lib.hid (HB.out.trans (hb.mono HB.out.size))
  have HSa := Lib.hid (HSa.out.under hb)
  have HSb := Lib.hid (HSb.out.under hb)
  clear hb
  obtain ⟨k1, hk_⟩ : ∃ k_, (normL a).length = k_ := ⟨_, rfl⟩
  rw [hk_] at hs_ hc_
  simp only [hk_]
  have HSx := Lib.hid hs_
  have HCx := Lib.hid hc_
  have HNx := Lib.hid (show k1 ≤ 4096 from by rw [← hk_]; have h_ := form_few a [] ⟨true, false, false⟩; have h2_ := HLa.out; have h3_ : ([] : List Sn3).length = 0 := rfl; unfold normL; omega)
  clear hs_ hc_ hk_
  go_wp2_with fail
  refine (osn_norm (normL a) X1 k1 x1 v1 HSx.out HCx.out (by have := HNx.out; omega)).mono ?_
  rintro r_ v2 ⟨X2, x2, rfl, hs_, hc_, hb⟩
  have HB := Lib.hid (HB.out.trans (hb.mono HB.out.size))
  have HSa := Lib.hid (HSa.out.under hb)
  have HSb := Lib.hid (HSb.out.under hb)
  have HSx := Lib.hid (HSx.out.under hb)
  clear hb
  obtain ⟨k2, hk_⟩ : ∃ k_, (normL (normL a)).length = k_ := ⟨_, rfl⟩
  rw [hk_] at hs_ hc_
  simp only [hk_]
  have HSy := Lib.hid hs_
  have HCy := Lib.hid hc_
  have HNy := Lib.hid (show k2 ≤ 4096 from by rw [← hk_]; have h_ := form_few (normL a) [] ⟨true, false, false⟩; have h2_ := form_few a [] ⟨true, false, false⟩; have h3_ := HLa.out; have h4_ : ([] : List Sn3).length = 0 := rfl; unfold normL at *; omega)
  clear hs_ hc_ hk_
  go_wp2_with fail
  have hq_ : sameN (normL (normL a)) (normL a) = true := (sameN_iff _ _).2 (norm_self (norm_normal a))
  refine (rssame_any (normL (normL a)) (normL a) X2 X1 k2 x2 k1 x1 v2 HSy.out HSx.out (by have := HNy.out; omega) (by have := HNx.out; omega)).mono ?_
  rw [hq_]
  clear hq_
  rintro r_ v3 ⟨rfl, hb⟩
  have HB := Lib.hid (HB.out.trans (hb.mono HB.out.size))
  have HSa := Lib.hid (HSa.out.under hb)
  have HSb := Lib.hid (HSb.out.under hb)
  have HSx := Lib.hid (HSx.out.under hb)
  have HSy := Lib.hid (HSy.out.under hb)
  clear hb
  clear HSy HCy HNy
  go_wp2_with fail
  refine (normal_any (normL a) (norm_normal a) X1 k1 x1 v3 HSx.out (by have := HNx.out; omega)).mono ?_
  rintro r_ v4 ⟨rfl, hb⟩
  have HB := Lib.hid (HB.out.trans (hb.mono HB.out.size))
  have HSa := Lib.hid (HSa.out.under hb)
  have HSb := Lib.hid (HSb.out.under hb)
  have HSx := Lib.hid (HSx.out.under hb)
  clear hb
  clear HSx HCx HNx
  go_wp2_with fail
  refine (osn_union (a) (b) A B n c m d v4 HSa.out HSb.out HCa.out HCb.out (by have := HNa.out; omega) (by have := HNb.out; omega)).mono ?_
  rintro r_ v5 ⟨X5, x5, rfl, hs_, hc_, hb⟩
  have HB := Lib.hid (HB.out.trans (hb.mono HB.out.size))
  have HSa := Lib.hid (HSa.out.under hb)
  have HSb := Lib.hid (HSb.out.under hb)
  clear hb
  obtain ⟨k5, hk_⟩ : ∃ k_, (unionL a b).length = k_ := ⟨_, rfl⟩
  rw [hk_] at hs_ hc_
  simp only [hk_]
  have HSx := Lib.hid hs_
  have HCx := Lib.hid hc_
  have HNx := Lib.hid (show k5 ≤ 4096 from by rw [← hk_]; have h_ := form_few a b ⟨true, true, true⟩; have h2_ := HLa.out; have h3_ := HLb.out; unfold unionL; omega)
  clear hs_ hc_ hk_
  go_wp2_with fail
  refine (normal_any (unionL a b) (union_normal a b) X5 k5 x5 v5 HSx.out (by have := HNx.out; omega)).mono ?_
  rintro r_ v6 ⟨rfl, hb⟩
  have HB := Lib.hid (HB.out.trans (hb.mono HB.out.size))
  have HSa := Lib.hid (HSa.out.under hb)
  have HSb := Lib.hid (HSb.out.under hb)
  have HSx := Lib.hid (HSx.out.under hb)
  clear hb
  clear HSx HCx HNx
  go_wp2_with fail
  refine (osn_minus (a) (b) A B n c m d v6 HSa.out HSb.out HCa.out HCb.out (by have := HNa.out; omega) (by have := HNb.out; omega)).mono ?_
  rintro r_ v7 ⟨X7, x7, rfl, hs_, hc_, hb⟩
  have HB := Lib.hid (HB.out.trans (hb.mono HB.out.size))
  have HSa := Lib.hid (HSa.out.under hb)
  have HSb := Lib.hid (HSb.out.under hb)
  clear hb
  obtain ⟨k7, hk_⟩ : ∃ k_, (minusL a b).length = k_ := ⟨_, rfl⟩
  rw [hk_] at hs_ hc_
  simp only [hk_]
  have HSx := Lib.hid hs_
  have HCx := Lib.hid hc_
  have HNx := Lib.hid (show k7 ≤ 4096 from by rw [← hk_]; have h_ := form_few a b ⟨true, false, false⟩; have h2_ := HLa.out; have h3_ := HLb.out; unfold minusL; omega)
  clear hs_ hc_ hk_
  go_wp2_with fail
  refine (normal_any (minusL a b) (minus_normal a b) X7 k7 x7 v7 HSx.out (by have := HNx.out; omega)).mono ?_
  rintro r_ v8 ⟨rfl, hb⟩
  have HB := Lib.hid (HB.out.trans (hb.mono HB.out.size))
  have HSa := Lib.hid (HSa.out.under hb)
  have HSb := Lib.hid (HSb.out.under hb)
  have HSx := Lib.hid (HSx.out.under hb)
  clear hb
  clear HSx HCx HNx
  go_wp2_with fail
  refine (osn_both (a) (b) A B n c m d v8 HSa.out HSb.out HCa.out HCb.out (by have := HNa.out; omega) (by have := HNb.out; omega)).mono ?_
  rintro r_ v9 ⟨X9, x9, rfl, hs_, hc_, hb⟩
  have HB := Lib.hid (HB.out.trans (hb.mono HB.out.size))
  have HSa := Lib.hid (HSa.out.under hb)
  have HSb := Lib.hid (HSb.out.under hb)
  clear hb
  obtain ⟨k9, hk_⟩ : ∃ k_, (bothL a b).length = k_ := ⟨_, rfl⟩
  rw [hk_] at hs_ hc_
  simp only [hk_]
  have HSx := Lib.hid hs_
  have HCx := Lib.hid hc_
  have HNx := Lib.hid (show k9 ≤ 4096 from by rw [← hk_]; have h_ := form_few a b ⟨false, false, true⟩; have h2_ := HLa.out; have h3_ := HLb.out; unfold bothL; omega)
  clear hs_ hc_ hk_
  go_wp2_with fail
  refine (normal_any (bothL a b) (both_normal a b) X9 k9 x9 v9 HSx.out (by have := HNx.out; omega)).mono ?_
  rintro r_ v10 ⟨rfl, hb⟩
  have HB := Lib.hid (HB.out.trans (hb.mono HB.out.size))
  have HSa := Lib.hid (HSa.out.under hb)
  have HSb := Lib.hid (HSb.out.under hb)
  have HSx := Lib.hid (HSx.out.under hb)
  clear hb
  clear HSx HCx HNx
  go_wp2
  go_ret
  exact ⟨by first | rfl | simp, HB.out⟩

end Go.Proofs.Ytdkfphjcdcjbpaa
