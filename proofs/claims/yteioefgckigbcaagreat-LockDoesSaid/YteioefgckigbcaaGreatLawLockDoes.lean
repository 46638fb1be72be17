/-
  linesidelaw16: LockDoes.
-/
import Derived.Test.YteioefgckigbcaaGreatLawLockExtents

import Derived.BigQuiet

import Derived.IntWalk

namespace Go.Proofs.YteioefgckigbcaaGreat

open Go.RowKit

open Go.Great

set_option maxRecDepth 100000 in
set_option maxHeartbeats 8000000 in
theorem lockDoes_walk (t : Tp3) (a : TpA) (l : List Lc3) (A : Option Addr) (c : Nat) (next : Int) (o : Op4) (w : World) (ht : TopR w t a) (hcj : t.joints.length ≤ a.cj) (hs : SlO lcC 3 w A l.length c l) (hnc : l.length ≤ c) :
    Calls Tryz.prog 3 #[.agg (tpC t a), .agg #[.slice A l.length c, .int .i64 next], .agg (opA16 o)] w fun e w' => e = .returned (.bool true) ∧ Below w.heap.size w w' := by
  obtain ⟨wa, hwa⟩ : ∃ wa, ((w.alloc (.cells (tpC t a) 27)).alloc (.cells #[.slice A l.length c, .int .i64 next] 30)).alloc (.cells (opA16 o) 32) = wa := ⟨_, rfl⟩
  have hbwa : Below w.heap.size w wa := by rw [← hwa]; exact (((Below.refl _ _).alloc (Nat.le_refl _) _).alloc (by simp) _).alloc (by simp; omega) _
  have h0 : Has wa (w.heap.size) 27 (tpC t a) := by rw [← hwa]; exact (((Has.made _ _ _).beside _).beside _)
  have h1 : Has wa (w.heap.size + 1) 30 #[.slice A l.length c, .int .i64 next] := by rw [← hwa]; exact ((has_at11 (by simp)).beside _)
  have h2 : Has wa (w.heap.size + 1 + 1) 32 (opA16 o) := by rw [← hwa]; exact (has_at11 (by simp))
  have HWA := Lib.hid hwa; have HBWA := Lib.hid hbwa
  have HT := Lib.hid (fun W (hW : Below w.heap.size w W) => ht.under hW)
  have HCJ := Lib.hid hcj
  have HS := Lib.hid (fun W (hW : Below w.heap.size w W) => hs.under hW)
  have HNC := Lib.hid hnc
  clear hs hnc
  have HG0 := Lib.hid h0
  have HG1 := Lib.hid h1
  have HG2 := Lib.hid h2
  clear hwa hbwa hcj ht h0 h1 h2
  obtain ⟨q, hq⟩ : ∃ q, (lightT t && decide (l.length ≤ 100)) = q := ⟨_, rfl⟩
  have HQ := Lib.hid hq
  clear hq
  go_enter Tryz.func3, Tryz.ntmps3
  go_upto_region 1 with fail
  rw [HWA.out]
  clear HWA
  go_wp2_with fail
  refine (awake16_any wa).mono ?_
  rintro e w1 ⟨rfl, hb⟩
  have HB := HBWA
  clear HBWA
  have HB := Lib.hid (HB.out.trans (hb.mono HB.out.size))
  have HG0 := Lib.hid (HG0.out.under hb HG0.out.lt)
  have HG1 := Lib.hid (HG1.out.under hb HG1.out.lt)
  have HG2 := Lib.hid (HG2.out.under hb HG2.out.lt)
  clear hb
  have d0 : w1.cell? ⟨w.heap.size + 1, 0, none⟩ = some (.slice A l.length c) := HG1.out.cell 0
  go_wp2_with (with_reducible refine wpList_load_row (o := ⟨some 22, _, _, _, _, _⟩) rfl 27 _ rfl (w.heap.size) rfl 27 (tpC t a) (0, 0) _ (HG0.out).raw11 Tryz.underlying27 rfl (by kernel_rfl) ?_)
  refine (few16_any t a A l.length c w1 (HT.out _ HB.out)).mono ?_
  rw [HQ.out]
  rintro e w2 ⟨rfl, hb⟩
  have HB := Lib.hid (HB.out.trans (hb.mono HB.out.size))
  have HG0 := Lib.hid (HG0.out.under hb HG0.out.lt)
  have HG1 := Lib.hid (HG1.out.under hb HG1.out.lt)
  have HG2 := Lib.hid (HG2.out.under hb HG2.out.lt)
  clear hb
  clear d0
  cases q with
  | false =>
    go_wp2
    go_ret
    exact ⟨by first | rfl | simp, HB.out⟩
  | true =>
    have HLT := Lib.hid (show lightT t = true from by have h_ := HQ.out; simp only [Bool.and_eq_true] at h_; exact h_.1)
    have HN := Lib.hid (show l.length ≤ 100 from by have h_ := HQ.out; simp only [Bool.and_eq_true, decide_eq_true_eq] at h_; exact h_.2)
    clear HQ
    obtain ⟨ofr, ort, otr, ono⟩ := o
    unfold opA16 at *
    dsimp only at *
    obtain ⟨E, hE⟩ : ∃ E, setE t ⟨l, next⟩ ort otr = E := ⟨_, rfl⟩
    have HEF := Lib.hid (show E.1.locks.length ≤ 101 from by have h1_ := set_few16 t ⟨l, next⟩ ort otr; rw [hE] at h1_; have h2_ := HN.out; dsimp only at h1_; omega)
    have HE := Lib.hid hE
    clear hE
    obtain ⟨⟨el, en⟩, eo, ee⟩ := E
    obtain ⟨F, hF⟩ : ∃ F, freeE t ⟨l, next⟩ ono = F := ⟨_, rfl⟩
    have HFF := Lib.hid (show F.1.locks.length ≤ 101 from by have h1_ := free_few16 t ⟨l, next⟩ ono; rw [hF] at h1_; have h2_ := HN.out; dsimp only at h1_; omega)
    have HF := Lib.hid hF
    clear hF
    obtain ⟨⟨fl, fn⟩, fe⟩ := F
    dsimp only at HEF HFF
    obtain ⟨M, hM⟩ : ∃ M, mayB t ⟨l, next⟩ = M := ⟨_, rfl⟩
    have HM0 := Lib.hid hM
    clear hM
    go_upto_region 5 with fail
    have d1 : w2.cell? ⟨w.heap.size + 1 + 1, 1, none⟩ = some (.int .i64 ort) := HG2.out.cell 1
    have d2 : w2.cell? ⟨w.heap.size + 1 + 1, 2, none⟩ = some (.int .i64 otr) := HG2.out.cell 2
    have hk := olc_set t a l next A l.length c w2 ort otr (HT.out _ HB.out) HLT.out HCJ.out (HS.out _ HB.out) HNC.out (by have := HN.out; omega)
    rw [HE.out] at hk
    have HK := Lib.hid hk
    clear hk
    go_wp2_with (first | (with_reducible refine wpList_load_row (o := ⟨some 34, _, _, _, _, _⟩) rfl 27 _ rfl (w.heap.size) rfl 27 (tpC t a) (0, 0) _ (HG0.out).raw11 Tryz.underlying27 rfl (by kernel_rfl) ?_) | (with_reducible refine wpList_load_row (o := ⟨some 35, _, _, _, _, _⟩) rfl 30 _ rfl (w.heap.size + 1) rfl 30 #[.slice A l.length c, .int .i64 next] (0, 0) _ (HG1.out).raw11 Tryz.underlying30 rfl (by kernel_rfl) ?_))
    refine HK.out.mono ?_
    rintro e_ v1 ⟨X1, k1, x1, rfl, hl_, hb⟩
    dsimp only at hl_ ⊢
    clear HK d1 d2
    have HL1 := Lib.hid (show SlO lcC 3 v1 X1 k1 x1 el from hl_.1)
    clear hl_
    have hm : Has (v1.alloc (.cells #[.slice none 0 0, .int .i64 0] 30)) v1.heap.size 30 #[.slice none 0 0, .int .i64 0] := Has.made _ _ _
    have HM := Lib.hid hm
    obtain ⟨u1, hu1⟩ : ∃ u_, (v1.alloc (.cells #[.slice none 0 0, .int .i64 0] 30)).setRow v1.heap.size #[.slice X1 k1 x1, .int .i64 en] = u_ := ⟨_, rfl⟩
    have hbu : Below v1.heap.size v1 u1 := by rw [← hu1]; exact below_row (g := v1.heap.size) ((Below.refl _ _).alloc (Nat.le_refl _) _) (Nat.le_refl _) _
    have HX1 := Lib.hid (show Has u1 v1.heap.size 30 #[.slice X1 k1 x1, .int .i64 en] from by rw [← hu1]; exact has_row11 hm _)
    have hstep := hb.trans (hbu.mono hb.size)
    have HB := Lib.hid (HB.out.trans (hstep.mono HB.out.size))
    have HG0 := Lib.hid (HG0.out.under hstep HG0.out.lt)
    have HG1 := Lib.hid (HG1.out.under hstep HG1.out.lt)
    have HG2 := Lib.hid (HG2.out.under hstep HG2.out.lt)
    have HL1 := Lib.hid (HL1.out.under hbu)
    have HUU := Lib.hid hu1
    clear hm hbu hb hstep hu1
    go_upto_region 6 with (with_reducible refine wpList_store_rowTo (o := ⟨none, _, _, _, _, _⟩) rfl 30 _ _ rfl rfl (v1.heap.size) #[.slice X1 k1 x1, .int .i64 en] rfl rfl 30 _ (HM.out).raw11 (by kernel_rfl) (by kernel_rfl) (by kernel_rfl) ?_)
    rw [HUU.out]
    clear HUU HM
    obtain ⟨v1g, hv1g⟩ : ∃ g, v1.heap.size = g := ⟨_, rfl⟩
    rw [hv1g] at HX1
    simp only [hv1g]
    clear hv1g
    have d1 : u1.cell? ⟨w.heap.size + 1 + 1, 1, none⟩ = some (.int .i64 ort) := HG2.out.cell 1
    have d2 : u1.cell? ⟨w.heap.size + 1 + 1, 2, none⟩ = some (.int .i64 otr) := HG2.out.cell 2
    have hk := rlset_any t a l next ort otr A l.length c u1 (HT.out _ HB.out) HLT.out HCJ.out (HS.out _ HB.out) HNC.out (by have := HN.out; omega)
    rw [HE.out] at hk
    have HK := Lib.hid hk
    clear hk
    go_wp2_with (first | (with_reducible refine wpList_load_row (o := ⟨some 45, _, _, _, _, _⟩) rfl 27 _ rfl (w.heap.size) rfl 27 (tpC t a) (0, 0) _ (HG0.out).raw11 Tryz.underlying27 rfl (by kernel_rfl) ?_) | (with_reducible refine wpList_load_row (o := ⟨some 46, _, _, _, _, _⟩) rfl 30 _ rfl (w.heap.size + 1) rfl 30 #[.slice A l.length c, .int .i64 next] (0, 0) _ (HG1.out).raw11 Tryz.underlying30 rfl (by kernel_rfl) ?_))
    refine HK.out.mono ?_
    rintro e_ v2 ⟨X2, k2, x2, rfl, hl_, hc_, hb⟩
    dsimp only at hl_ ⊢
    clear HK d1 d2 hc_
    have HL2 := Lib.hid (show SlO lcC 3 v2 X2 k2 x2 el from hl_)
    clear hl_
    have HL1 := Lib.hid (HL1.out.under hb)
    have hm : Has (v2.alloc (.cells #[.slice none 0 0, .int .i64 0] 30)) v2.heap.size 30 #[.slice none 0 0, .int .i64 0] := Has.made _ _ _
    have HM := Lib.hid hm
    obtain ⟨u2, hu2⟩ : ∃ u_, (v2.alloc (.cells #[.slice none 0 0, .int .i64 0] 30)).setRow v2.heap.size #[.slice X2 k2 x2, .int .i64 en] = u_ := ⟨_, rfl⟩
    have hbu : Below v2.heap.size v2 u2 := by rw [← hu2]; exact below_row (g := v2.heap.size) ((Below.refl _ _).alloc (Nat.le_refl _) _) (Nat.le_refl _) _
    have HX2 := Lib.hid (show Has u2 v2.heap.size 30 #[.slice X2 k2 x2, .int .i64 en] from by rw [← hu2]; exact has_row11 hm _)
    have hstep := hb.trans (hbu.mono hb.size)
    have HB := Lib.hid (HB.out.trans (hstep.mono HB.out.size))
    have HG0 := Lib.hid (HG0.out.under hstep HG0.out.lt)
    have HG1 := Lib.hid (HG1.out.under hstep HG1.out.lt)
    have HG2 := Lib.hid (HG2.out.under hstep HG2.out.lt)
    have HX1 := Lib.hid (HX1.out.under hstep HX1.out.lt)
    have HL2 := Lib.hid (HL2.out.under hbu)
    have HL1 := Lib.hid (HL1.out.under hbu)
    have HUU := Lib.hid hu2
    clear hm hbu hb hstep hu2
    go_upto_region 7 with (with_reducible refine wpList_store_rowTo (o := ⟨none, _, _, _, _, _⟩) rfl 30 _ _ rfl rfl (v2.heap.size) #[.slice X2 k2 x2, .int .i64 en] rfl rfl 30 _ (HM.out).raw11 (by kernel_rfl) (by kernel_rfl) (by kernel_rfl) ?_)
    rw [HUU.out]
    clear HUU HM
    obtain ⟨v2g, hv2g⟩ : ∃ g, v2.heap.size = g := ⟨_, rfl⟩
    rw [hv2g] at HX2
    simp only [hv2g]
    clear hv2g
    go_wp2_with (first | (with_reducible refine wpList_load_row (o := ⟨some 55, _, _, _, _, _⟩) rfl 30 _ rfl (v1g) rfl 30 #[.slice X1 k1 x1, .int .i64 en] (0, 0) _ (HX1.out).raw11 Tryz.underlying30 rfl (by kernel_rfl) ?_) | (with_reducible refine wpList_load_row (o := ⟨some 56, _, _, _, _, _⟩) rfl 30 _ rfl (v2g) rfl 30 #[.slice X2 k2 x2, .int .i64 en] (0, 0) _ (HX2.out).raw11 Tryz.underlying30 rfl (by kernel_rfl) ?_))
    refine (rlsame_any ⟨el, en⟩ ⟨el, en⟩ X1 X2 k1 x1 k2 x2 u2 HL1.out HL2.out (by have h1_ := HL1.out.1; have h2_ := HEF.out; omega) (by have h1_ := HL2.out.1; have h2_ := HEF.out; omega)).mono ?_
    rw [(sameI_iff _ _).2 rfl]
    rintro e_ w3 ⟨rfl, hb⟩
    clear HX1 HX2 HL1 HL2
    have HB := Lib.hid (HB.out.trans (hb.mono HB.out.size))
    have HG0 := Lib.hid (HG0.out.under hb HG0.out.lt)
    have HG1 := Lib.hid (HG1.out.under hb HG1.out.lt)
    have HG2 := Lib.hid (HG2.out.under hb HG2.out.lt)
    clear hb
    have d3 : w3.cell? ⟨w.heap.size + 1 + 1, 3, none⟩ = some (.int .i64 ono) := HG2.out.cell 3
    have hk := olc_free t a l next A l.length c w3 ono (HT.out _ HB.out) HLT.out HCJ.out (HS.out _ HB.out) HNC.out (by have := HN.out; omega)
    rw [HF.out] at hk
    have HK := Lib.hid hk
    clear hk
    go_wp2_with (first | (with_reducible refine wpList_load_row (o := ⟨some 59, _, _, _, _, _⟩) rfl 27 _ rfl (w.heap.size) rfl 27 (tpC t a) (0, 0) _ (HG0.out).raw11 Tryz.underlying27 rfl (by kernel_rfl) ?_) | (with_reducible refine wpList_load_row (o := ⟨some 60, _, _, _, _, _⟩) rfl 30 _ rfl (w.heap.size + 1) rfl 30 #[.slice A l.length c, .int .i64 next] (0, 0) _ (HG1.out).raw11 Tryz.underlying30 rfl (by kernel_rfl) ?_))
    refine HK.out.mono ?_
    rintro e_ v3 ⟨X3, k3, x3, rfl, hl_, hb⟩
    dsimp only at hl_ ⊢
    clear HK d3
    have HL3 := Lib.hid (show SlO lcC 3 v3 X3 k3 x3 fl from hl_.1)
    clear hl_
    have hm : Has (v3.alloc (.cells #[.slice none 0 0, .int .i64 0] 30)) v3.heap.size 30 #[.slice none 0 0, .int .i64 0] := Has.made _ _ _
    have HM := Lib.hid hm
    obtain ⟨u3, hu3⟩ : ∃ u_, (v3.alloc (.cells #[.slice none 0 0, .int .i64 0] 30)).setRow v3.heap.size #[.slice X3 k3 x3, .int .i64 fn] = u_ := ⟨_, rfl⟩
    have hbu : Below v3.heap.size v3 u3 := by rw [← hu3]; exact below_row (g := v3.heap.size) ((Below.refl _ _).alloc (Nat.le_refl _) _) (Nat.le_refl _) _
    have HX3 := Lib.hid (show Has u3 v3.heap.size 30 #[.slice X3 k3 x3, .int .i64 fn] from by rw [← hu3]; exact has_row11 hm _)
    have hstep := hb.trans (hbu.mono hb.size)
    have HB := Lib.hid (HB.out.trans (hstep.mono HB.out.size))
    have HG0 := Lib.hid (HG0.out.under hstep HG0.out.lt)
    have HG1 := Lib.hid (HG1.out.under hstep HG1.out.lt)
    have HG2 := Lib.hid (HG2.out.under hstep HG2.out.lt)
    have HL3 := Lib.hid (HL3.out.under hbu)
    have HUU := Lib.hid hu3
    clear hm hbu hb hstep hu3
    go_upto_region 9 with (with_reducible refine wpList_store_rowTo (o := ⟨none, _, _, _, _, _⟩) rfl 30 _ _ rfl rfl (v3.heap.size) #[.slice X3 k3 x3, .int .i64 fn] rfl rfl 30 _ (HM.out).raw11 (by kernel_rfl) (by kernel_rfl) (by kernel_rfl) ?_)
    rw [HUU.out]
    clear HUU HM
    obtain ⟨v3g, hv3g⟩ : ∃ g, v3.heap.size = g := ⟨_, rfl⟩
    rw [hv3g] at HX3
    simp only [hv3g]
    clear hv3g
    have d3 : u3.cell? ⟨w.heap.size + 1 + 1, 3, none⟩ = some (.int .i64 ono) := HG2.out.cell 3
    have hk := rlfree_any t a l next ono A l.length c u3 (HT.out _ HB.out) HLT.out HCJ.out (HS.out _ HB.out) HNC.out (by have := HN.out; omega)
    rw [HF.out] at hk
    have HK := Lib.hid hk
    clear hk
    go_wp2_with (first | (with_reducible refine wpList_load_row (o := ⟨some 67, _, _, _, _, _⟩) rfl 27 _ rfl (w.heap.size) rfl 27 (tpC t a) (0, 0) _ (HG0.out).raw11 Tryz.underlying27 rfl (by kernel_rfl) ?_) | (with_reducible refine wpList_load_row (o := ⟨some 68, _, _, _, _, _⟩) rfl 30 _ rfl (w.heap.size + 1) rfl 30 #[.slice A l.length c, .int .i64 next] (0, 0) _ (HG1.out).raw11 Tryz.underlying30 rfl (by kernel_rfl) ?_))
    refine HK.out.mono ?_
    rintro e_ v4 ⟨X4, k4, x4, rfl, hl_, hc_, hb⟩
    dsimp only at hl_ ⊢
    clear HK d3 hc_
    have HL4 := Lib.hid (show SlO lcC 3 v4 X4 k4 x4 fl from hl_)
    clear hl_
    have HL3 := Lib.hid (HL3.out.under hb)
    have hm : Has (v4.alloc (.cells #[.slice none 0 0, .int .i64 0] 30)) v4.heap.size 30 #[.slice none 0 0, .int .i64 0] := Has.made _ _ _
    have HM := Lib.hid hm
    obtain ⟨u4, hu4⟩ : ∃ u_, (v4.alloc (.cells #[.slice none 0 0, .int .i64 0] 30)).setRow v4.heap.size #[.slice X4 k4 x4, .int .i64 fn] = u_ := ⟨_, rfl⟩
    have hbu : Below v4.heap.size v4 u4 := by rw [← hu4]; exact below_row (g := v4.heap.size) ((Below.refl _ _).alloc (Nat.le_refl _) _) (Nat.le_refl _) _
    have HX4 := Lib.hid (show Has u4 v4.heap.size 30 #[.slice X4 k4 x4, .int .i64 fn] from by rw [← hu4]; exact has_row11 hm _)
    have hstep := hb.trans (hbu.mono hb.size)
    have HB := Lib.hid (HB.out.trans (hstep.mono HB.out.size))
    have HG0 := Lib.hid (HG0.out.under hstep HG0.out.lt)
    have HG1 := Lib.hid (HG1.out.under hstep HG1.out.lt)
    have HG2 := Lib.hid (HG2.out.under hstep HG2.out.lt)
    have HX3 := Lib.hid (HX3.out.under hstep HX3.out.lt)
    have HL4 := Lib.hid (HL4.out.under hbu)
    have HL3 := Lib.hid (HL3.out.under hbu)
    have HUU := Lib.hid hu4
    clear hm hbu hb hstep hu4
    go_upto_region 10 with (with_reducible refine wpList_store_rowTo (o := ⟨none, _, _, _, _, _⟩) rfl 30 _ _ rfl rfl (v4.heap.size) #[.slice X4 k4 x4, .int .i64 fn] rfl rfl 30 _ (HM.out).raw11 (by kernel_rfl) (by kernel_rfl) (by kernel_rfl) ?_)
    rw [HUU.out]
    clear HUU HM
    obtain ⟨v4g, hv4g⟩ : ∃ g, v4.heap.size = g := ⟨_, rfl⟩
    rw [hv4g] at HX4
    simp only [hv4g]
    clear hv4g
    go_wp2_with (first | (with_reducible refine wpList_load_row (o := ⟨some 74, _, _, _, _, _⟩) rfl 30 _ rfl (v3g) rfl 30 #[.slice X3 k3 x3, .int .i64 fn] (0, 0) _ (HX3.out).raw11 Tryz.underlying30 rfl (by kernel_rfl) ?_) | (with_reducible refine wpList_load_row (o := ⟨some 75, _, _, _, _, _⟩) rfl 30 _ rfl (v4g) rfl 30 #[.slice X4 k4 x4, .int .i64 fn] (0, 0) _ (HX4.out).raw11 Tryz.underlying30 rfl (by kernel_rfl) ?_))
    refine (rlsame_any ⟨fl, fn⟩ ⟨fl, fn⟩ X3 X4 k3 x3 k4 x4 u4 HL3.out HL4.out (by have h1_ := HL3.out.1; have h2_ := HFF.out; omega) (by have h1_ := HL4.out.1; have h2_ := HFF.out; omega)).mono ?_
    rw [(sameI_iff _ _).2 rfl]
    rintro e_ w4 ⟨rfl, hb⟩
    clear HX3 HX4 HL3 HL4
    have HB := Lib.hid (HB.out.trans (hb.mono HB.out.size))
    have HG0 := Lib.hid (HG0.out.under hb HG0.out.lt)
    have HG1 := Lib.hid (HG1.out.under hb HG1.out.lt)
    have HG2 := Lib.hid (HG2.out.under hb HG2.out.lt)
    clear hb
    go_upto_region 11 with fail
    refine wp_region_held_drew (S := (fun W_ => (Has W_ (w.heap.size) 27 (tpC t a)) ∧ (Has W_ (w.heap.size + 1) 30 #[.slice A l.length c, .int .i64 next]) ∧ (Below w.heap.size w W_))) (by kernel_rfl) ?_ (fun hHeld => ?_)
    · exact ⟨HG0.out.draw, HG1.out.draw, below_dr11 HB.out⟩
    refine wpAnyH_take (i := 0) (oi := ⟨some 77, _, _, _, _, _⟩) (v := ?_) rfl (by kernel_rfl) (by kernel_rfl) (by kernel_rfl) (fun _ _ _ h => h) (Or.inl ⟨by rfl, ?_⟩) (by assumption) ?_
    rotate_left
    · intro w_ hSw; (try dsimp only at hSw); go_simp <;> with_reducible rfl
    simp only [Act.put, List.setIfInBounds_toArray, List.set_cons_zero, List.set_cons_succ]
    refine wpAnyH_take (i := 1) (oi := ⟨some 78, _, _, _, _, _⟩) (v := ?_) rfl (by kernel_rfl) (by kernel_rfl) (by kernel_rfl) (fun _ _ _ h => h) (Or.inl ⟨by rfl, ?_⟩) (by assumption) ?_
    rotate_left
    · intro w_ hSw; (try dsimp only at hSw); go_simp <;> with_reducible rfl
    simp only [Act.put, List.setIfInBounds_toArray, List.set_cons_zero, List.set_cons_succ]
    refine wpAnyH_take (i := 2) (oi := ⟨some 79, _, _, _, _, _⟩) (v := ?_) rfl (by kernel_rfl) (by kernel_rfl) (by kernel_rfl) (fun _ _ _ h => h) (Or.inl ⟨by rfl, ?_⟩) (by assumption) ?_
    rotate_left
    · intro w_ hSw; (try dsimp only at hSw); go_simp <;> with_reducible rfl
    simp only [Act.put, List.setIfInBounds_toArray, List.set_cons_zero, List.set_cons_succ]
    refine wpAnyH_take (i := 3) (oi := ⟨some 80, _, _, _, _, _⟩) (v := ?_) rfl (by kernel_rfl) (by kernel_rfl) (by kernel_rfl) (fun _ _ _ h => h) (Or.inl ⟨by rfl, ?_⟩) (by assumption) ?_
    rotate_left
    · intro w_ hSw; (try dsimp only at hSw); go_simp <;> with_reducible rfl
    simp only [Act.put, List.setIfInBounds_toArray, List.set_cons_zero, List.set_cons_succ]
    refine wpAnyH_take (i := 4) (oi := ⟨some 81, _, _, _, _, _⟩) (v := ?_) rfl (by kernel_rfl) (by kernel_rfl) (by kernel_rfl) (fun _ _ _ h => h) (Or.inl ⟨by rfl, ?_⟩) (by assumption) ?_
    rotate_left
    · intro w_ hSw; (try dsimp only at hSw); go_simp <;> with_reducible rfl
    simp only [Act.put, List.setIfInBounds_toArray, List.set_cons_zero, List.set_cons_succ]
    refine wpAnyH_take (i := 5) (oi := ⟨some 82, _, _, _, _, _⟩) (v := ?_) rfl (by kernel_rfl) (by kernel_rfl) (by kernel_rfl) (fun _ _ _ h => h) (Or.inl ⟨by rfl, ?_⟩) (by assumption) ?_
    rotate_left
    · intro w_ hSw; (try dsimp only at hSw); go_simp <;> with_reducible rfl
    simp only [Act.put, List.setIfInBounds_toArray, List.set_cons_zero, List.set_cons_succ]
    refine wpAnyH_take (i := 6) (oi := ⟨some 83, _, _, _, _, _⟩) (v := ?_) rfl (by kernel_rfl) (by kernel_rfl) (by kernel_rfl) (fun _ _ _ h => h) (Or.inl ⟨by rfl, ?_⟩) (by assumption) ?_
    rotate_left
    · intro w_ hSw; (try dsimp only at hSw); go_simp <;> with_reducible rfl
    simp only [Act.put, List.setIfInBounds_toArray, List.set_cons_zero, List.set_cons_succ]
    refine wpAnyH_take (i := 7) (oi := ⟨some 84, _, _, _, _, _⟩) (v := ?_) rfl (by kernel_rfl) (by kernel_rfl) (by kernel_rfl) (fun _ _ _ h => h) (Or.inl ⟨by rfl, ?_⟩) (by assumption) ?_
    rotate_left
    · intro w_ hSw; (try dsimp only at hSw); go_simp <;> with_reducible rfl
    simp only [Act.put, List.setIfInBounds_toArray, List.set_cons_zero, List.set_cons_succ]
    refine wpAnyH_take (i := 8) (oi := ⟨some 85, _, _, _, _, _⟩) (v := ?_) rfl (by kernel_rfl) (by kernel_rfl) (by kernel_rfl) (fun _ _ _ h => h) (Or.inl ⟨by rfl, ?_⟩) (by assumption) ?_
    rotate_left
    · intro w_ hSw; (try dsimp only at hSw); go_simp <;> with_reducible rfl
    simp only [Act.put, List.setIfInBounds_toArray, List.set_cons_zero, List.set_cons_succ]
    refine wpAnyH_take (i := 9) (oi := ⟨some 86, _, _, _, _, _⟩) (v := ?_) rfl (by kernel_rfl) (by kernel_rfl) (by kernel_rfl) (fun _ _ _ h => h) (Or.inl ⟨by rfl, ?_⟩) (by assumption) ?_
    rotate_left
    · intro w_ hSw; (try dsimp only at hSw); go_simp <;> with_reducible rfl
    simp only [Act.put, List.setIfInBounds_toArray, List.set_cons_zero, List.set_cons_succ]
    refine wpAnyH_take (i := 10) (oi := ⟨some 87, _, _, _, _, _⟩) (v := ?_) rfl (by kernel_rfl) (by kernel_rfl) (by kernel_rfl) (fun _ _ _ h => h) (Or.inl ⟨by rfl, ?_⟩) (by assumption) ?_
    rotate_left
    · intro w_ hSw; (try dsimp only at hSw); go_simp <;> with_reducible rfl
    simp only [Act.put, List.setIfInBounds_toArray, List.set_cons_zero, List.set_cons_succ]
    refine wpAnyH_take (i := 11) (oi := ⟨some 88, _, _, _, _, _⟩) (v := ?_) rfl (by kernel_rfl) (by kernel_rfl) (by kernel_rfl) (fun _ _ _ h => h) (Or.inl ⟨by rfl, ?_⟩) (by assumption) ?_
    rotate_left
    · intro w_ hSw; (try dsimp only at hSw); go_simp <;> with_reducible rfl
    simp only [Act.put, List.setIfInBounds_toArray, List.set_cons_zero, List.set_cons_succ]
    refine wpAnyH_take (i := 12) (oi := ⟨some 89, _, _, _, _, _⟩) (v := ?_) rfl (by kernel_rfl) (by kernel_rfl) (by kernel_rfl) (fun _ _ _ h => h) (Or.inl ⟨by rfl, ?_⟩) (by assumption) ?_
    rotate_left
    · intro w_ hSw; (try dsimp only at hSw); go_simp <;> with_reducible rfl
    simp only [Act.put, List.setIfInBounds_toArray, List.set_cons_zero, List.set_cons_succ]
    refine wpAnyH_take (i := 13) (oi := ⟨some 90, _, _, _, _, _⟩) (v := ?_) rfl (by kernel_rfl) (by kernel_rfl) (by kernel_rfl) (fun _ _ _ h => h) (Or.inl ⟨by rfl, ?_⟩) (by assumption) ?_
    rotate_left
    · intro w_ hSw; (try dsimp only at hSw); go_simp <;> with_reducible rfl
    simp only [Act.put, List.setIfInBounds_toArray, List.set_cons_zero, List.set_cons_succ]
    refine wpAnyH_take (i := 14) (oi := ⟨some 91, _, _, _, _, _⟩) (v := ?_) rfl (by kernel_rfl) (by kernel_rfl) (by kernel_rfl) (fun _ _ _ h => h) (Or.inl ⟨by rfl, ?_⟩) (by assumption) ?_
    rotate_left
    · intro w_ hSw; (try dsimp only at hSw); go_simp <;> with_reducible rfl
    simp only [Act.put, List.setIfInBounds_toArray, List.set_cons_zero, List.set_cons_succ]
    refine wpAnyH_take (i := 15) (oi := ⟨some 92, _, _, _, _, _⟩) (v := ?_) rfl (by kernel_rfl) (by kernel_rfl) (by kernel_rfl) (fun _ _ _ h => h) (Or.inl ⟨by rfl, ?_⟩) (by assumption) ?_
    rotate_left
    · intro w_ hSw; (try dsimp only at hSw); go_simp <;> with_reducible rfl
    simp only [Act.put, List.setIfInBounds_toArray, List.set_cons_zero, List.set_cons_succ]
    refine wpAnyH_take (i := 16) (oi := ⟨some 93, _, _, _, _, _⟩) (v := ?_) rfl (by kernel_rfl) (by kernel_rfl) (by kernel_rfl) (fun _ _ _ h => h) (Or.inl ⟨by rfl, ?_⟩) (by assumption) ?_
    rotate_left
    · intro w_ hSw; (try dsimp only at hSw); go_simp <;> with_reducible rfl
    simp only [Act.put, List.setIfInBounds_toArray, List.set_cons_zero, List.set_cons_succ]
    refine wpAnyH_take (i := 17) (oi := ⟨some 94, _, _, _, _, _⟩) (v := ?_) rfl (by kernel_rfl) (by kernel_rfl) (by kernel_rfl) (fun _ _ _ h => h) (Or.inl ⟨by rfl, ?_⟩) (by assumption) ?_
    rotate_left
    · intro w_ hSw; (try dsimp only at hSw); go_simp <;> with_reducible rfl
    simp only [Act.put, List.setIfInBounds_toArray, List.set_cons_zero, List.set_cons_succ]
    refine wpAnyH_take (i := 18) (oi := ⟨some 95, _, _, _, _, _⟩) (v := ?_) rfl (by kernel_rfl) (by kernel_rfl) (by kernel_rfl) (fun _ _ _ h => h) (Or.inl ⟨by rfl, ?_⟩) (by assumption) ?_
    rotate_left
    · intro w_ hSw; (try dsimp only at hSw); go_simp <;> with_reducible rfl
    simp only [Act.put, List.setIfInBounds_toArray, List.set_cons_zero, List.set_cons_succ]
    refine wpAnyH_take (i := 19) (oi := ⟨some 96, _, _, _, _, _⟩) (v := ?_) rfl (by kernel_rfl) (by kernel_rfl) (by kernel_rfl) (fun _ _ _ h => h) (Or.inl ⟨by rfl, ?_⟩) (by assumption) ?_
    rotate_left
    · intro w_ hSw; (try dsimp only at hSw); go_simp <;> with_reducible rfl
    simp only [Act.put, List.setIfInBounds_toArray, List.set_cons_zero, List.set_cons_succ]
    refine wpAnyH_take (i := 20) (oi := ⟨some 97, _, _, _, _, _⟩) (v := .agg (tpC t a)) rfl (by kernel_rfl) (by kernel_rfl) (by kernel_rfl) (fun _ _ _ h => h) (yields_load_row11 27 _ rfl (w.heap.size) rfl 27 (tpC t a) _ (fun _ ⟨h_, _, _⟩ => h_) Tryz.underlying27 rfl (by kernel_rfl) (by rfl)) (by assumption) ?_
    simp only [Act.put, List.setIfInBounds_toArray, List.set_cons_zero, List.set_cons_succ]
    refine wpAnyH_take (i := 21) (oi := ⟨some 98, _, _, _, _, _⟩) (v := .agg #[.slice A l.length c, .int .i64 next]) rfl (by kernel_rfl) (by kernel_rfl) (by kernel_rfl) (fun _ _ _ h => h) (yields_load_row11 30 _ rfl (w.heap.size + 1) rfl 30 #[.slice A l.length c, .int .i64 next] _ (fun _ ⟨_, h_, _⟩ => h_) Tryz.underlying30 rfl (by kernel_rfl) (by rfl)) (by assumption) ?_
    simp only [Act.put, List.setIfInBounds_toArray, List.set_cons_zero, List.set_cons_succ]
    refine wpAnyH_take (i := 23) (oi := ⟨some 100, _, _, _, _, _⟩) (v := .agg (tpC t a)) rfl (by kernel_rfl) (by kernel_rfl) (by kernel_rfl) (fun _ _ _ h => h) (yields_load_row11 27 _ rfl (w.heap.size) rfl 27 (tpC t a) _ (fun _ ⟨h_, _, _⟩ => h_) Tryz.underlying27 rfl (by kernel_rfl) (by rfl)) (by assumption) ?_
    simp only [Act.put, List.setIfInBounds_toArray, List.set_cons_zero, List.set_cons_succ]
    refine wpAnyH_take (i := 24) (oi := ⟨some 101, _, _, _, _, _⟩) (v := .agg #[.slice A l.length c, .int .i64 next]) rfl (by kernel_rfl) (by kernel_rfl) (by kernel_rfl) (fun _ _ _ h => h) (yields_load_row11 30 _ rfl (w.heap.size + 1) rfl 30 #[.slice A l.length c, .int .i64 next] _ (fun _ ⟨_, h_, _⟩ => h_) Tryz.underlying30 rfl (by kernel_rfl) (by rfl)) (by assumption) ?_
    simp only [Act.put, List.setIfInBounds_toArray, List.set_cons_zero, List.set_cons_succ]
    refine wpAnyH_ready (rs := [22]) (by kernel_rfl) (by simp) ?_
    refine AllReadyH.cons (o := ⟨some 99, _, _, _, _, _⟩) rfl (fun K hK => ?_) ?_
    · go_simp
      obtain ⟨s0, s1, s2⟩ := hHeld
      refine (olc_may t a l next A l.length c _ (HT.out _ s2) HLT.out HCJ.out (HS.out _ s2) HNC.out (by have := HN.out; omega)).mono ?_
      rw [HM0.out]
      rintro e_ q1 ⟨rfl, hb_⟩
      go_wp2_with fail
      refine hK.out _ _ ?_ (fun hHeld => ?_)
      · exact ⟨s0.under hb_ s0.lt, s1.under hb_ s1.lt, s2.trans (hb_.mono s2.size)⟩
      clear hK K s0 s1 s2
      try simp only [Act.put, List.setIfInBounds_toArray, List.set_cons_zero, List.set_cons_succ]
      refine wpAnyH_ready (rs := [25]) (by kernel_rfl) (by simp) ?_
      refine AllReadyH.cons (o := ⟨some 102, _, _, _, _, _⟩) rfl (fun K hK => ?_) ?_
      · go_simp
        obtain ⟨s0, s1, s2⟩ := hHeld
        refine (rlmay_any t a l next A l.length c _ (HT.out _ s2) HLT.out HCJ.out (HS.out _ s2) HNC.out (by have := HN.out; omega)).mono ?_
        rw [HM0.out]
        rintro e_ q2 ⟨rfl, hb_⟩
        go_wp2_with fail
        refine hK.out _ _ ?_ (fun hHeld => ?_)
        · exact ⟨s0.under hb_ s0.lt, s1.under hb_ s1.lt, s2.trans (hb_.mono s2.size)⟩
        clear hK K s0 s1 s2
        try simp only [Act.put, List.setIfInBounds_toArray, List.set_cons_zero, List.set_cons_succ]
        refine wpAnyH_take (i := 26) (oi := ⟨some 103, _, _, _, _, _⟩) (v := ?_) rfl (by kernel_rfl) (by kernel_rfl) (by kernel_rfl) (fun _ _ _ h => h) (Or.inl ⟨by rfl, ?_⟩) (by assumption) ?_
        rotate_left
        · intro w_ hSw; (try dsimp only at hSw); go_simp <;> with_reducible rfl
        simp only [Act.put, List.setIfInBounds_toArray, List.set_cons_zero, List.set_cons_succ]
        refine wpAnyH_take (i := 27) (oi := ⟨some 104, _, _, _, _, _⟩) (v := ?_) rfl (by kernel_rfl) (by kernel_rfl) (by kernel_rfl) (fun _ _ _ h => h) (Or.inl ⟨by rfl, ?_⟩) (by assumption) ?_
        rotate_left
        · intro w_ hSw; (try dsimp only at hSw); go_simp <;> with_reducible rfl
        simp only [Act.put, List.setIfInBounds_toArray, List.set_cons_zero, List.set_cons_succ]
        refine wpAnyH_take (i := 28) (oi := ⟨some 6, _, _, _, _, _⟩) (v := ?_) rfl (by kernel_rfl) (by kernel_rfl) (by kernel_rfl) (fun _ _ _ h => h) (Or.inl ⟨by rfl, ?_⟩) (by assumption) ?_
        rotate_left
        · intro w_ hSw; (try dsimp only at hSw); go_simp <;> with_reducible rfl
        simp only [Act.put, List.setIfInBounds_toArray, List.set_cons_zero, List.set_cons_succ]
        refine wpAnyH_done (by kernel_rfl) ?_ _
        have HR := Lib.hid hHeld.2.2
        clear hHeld
        go_wp2_with fail
        go_ret
        exact ⟨by first | rfl | simp, HR.out⟩
      exact AllReadyH.nil
    exact AllReadyH.nil

end Go.Proofs.YteioefgckigbcaaGreat
