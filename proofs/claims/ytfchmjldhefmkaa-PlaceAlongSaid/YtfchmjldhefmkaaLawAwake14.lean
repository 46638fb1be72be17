/-
  linesidelaw14: small, awake.
-/
import Derived.Test.YtfchmjldhefmkaaPlOwn

namespace Go.Proofs.Ytfchmjldhefmkaa

open Go.RowKit

open Go.Great

def sm13 : Tp3 := ⟨[100, 200, 300], [⟨(0, 1), (1, 0)⟩, ⟨(0, 1), (2, 1)⟩], [], []⟩
theorem sl_has13 {W : World} {g : Nat} {t : TypeId} {n s : Nat} {vs : List Value} (h : Has W g t vs.toArray) (hn : vs.length = n * s) : Sl W s (some ⟨g, 0, none⟩) n n vs := by
  refine ⟨hn, (fun e => by cases e), fun ad ha j u hu => ?_⟩
  injection ha with ha
  subst ha
  rw [WideShapes.add_plain, h.cell, Nat.zero_add]
  simpa using hu
set_option maxRecDepth 100000 in
set_option maxHeartbeats 8000000 in
theorem small_any (w : World) : Calls Try.prog 24 #[] w fun e w' => ∃ a : TpA, e = .returned (.agg (tpC sm13 a)) ∧ TopR w' sm13 a ∧ sm13.joints.length ≤ a.cj ∧ Below w.heap.size w w' := by
  obtain ⟨wa, hwa⟩ : ∃ wa, ((w.alloc (.cells (tpC sm13 ⟨some ⟨w.heap.size + 1, 0, none⟩, 3, some ⟨w.heap.size + 1 + 1, 0, none⟩, 2, none, 0, none, 0⟩) 27)).alloc (.cells #[.int .i64 100, .int .i64 200, .int .i64 300] 3)).alloc (.cells #[.int .i64 0, .int .i64 1, .int .i64 1, .int .i64 0, .int .i64 0, .int .i64 1, .int .i64 2, .int .i64 1] 73) = wa := ⟨_, rfl⟩
  have hbwa : Below w.heap.size w wa := by rw [← hwa]; exact (((Below.refl _ _).alloc (Nat.le_refl _) _).alloc (by simp) _).alloc (by simp; omega) _
  have h0 : Has wa (w.heap.size) 27 (tpC sm13 ⟨some ⟨w.heap.size + 1, 0, none⟩, 3, some ⟨w.heap.size + 1 + 1, 0, none⟩, 2, none, 0, none, 0⟩) := by rw [← hwa]; exact (((Has.made _ _ _).beside _).beside _)
  have h1 : Has wa (w.heap.size + 1) 3 #[.int .i64 100, .int .i64 200, .int .i64 300] := by rw [← hwa]; exact ((has_at11 (by simp)).beside _)
  have h2 : Has wa (w.heap.size + 1 + 1) 73 #[.int .i64 0, .int .i64 1, .int .i64 1, .int .i64 0, .int .i64 0, .int .i64 1, .int .i64 2, .int .i64 1] := by rw [← hwa]; exact (has_at11 (by simp))
  have HWA := Lib.hid hwa; have HBWA := Lib.hid hbwa
  have H0 := Lib.hid h0
  have H1 := Lib.hid h1
  have H2 := Lib.hid h2
  clear h0 h1 h2 hwa hbwa
  unfold tpC sm13 at HWA H0
  dsimp only [List.length_cons, List.length_nil] at HWA H0
  go_enter Try.func24, Try.ntmps24
  go_upto_region 1 with fail
  go_wp2_with fail
  have hw : _ = wa := HWA.out
  first | rw [hw] | (simp only [Nat.zero_add] at hw; rw [hw])
  refine bodyPost_ret (results_cell_row rfl _ _ (w.heap.size) 27 _ _ _ rfl H0.out Try.underlying27 rfl (by kernel_rfl)) rfl ?_
  exact ⟨⟨some ⟨w.heap.size + 1, 0, none⟩, 3, some ⟨w.heap.size + 1 + 1, 0, none⟩, 2, none, 0, none, 0⟩, rfl, ⟨⟨rfl, sl_has13 H1.out rfl⟩, ⟨rfl, sl_has13 H2.out rfl⟩, SlO.nil _ _ _, ⟨[], rfl, SlO.nil _ _ _, fun p h => by cases h⟩⟩, Nat.le_refl 2, HBWA.out⟩

set_option maxRecDepth 100000 in
set_option maxHeartbeats 8000000 in
theorem awake14_any (w : World) : Calls Try.prog 8 #[] w fun e w' => e = .returned (.bool true) ∧ Below w.heap.size w w' := by
  have hlt : lightT sm13 = true := by kernel_rfl
  have h1 := fun a W h hc => opl_walk sm13 a ⟨1, 150, true⟩ 200 W h hlt hc (by omega)
  simp only [show walkE sm13 ⟨1, 150, true⟩ 200 = (⟨0, 50, true⟩, 0) from by kernel_rfl] at h1
  have H1 := Lib.hid h1
  have h2 := fun a W h hc => opl_walk sm13 a ⟨0, 50, false⟩ 50 W h hlt hc (by omega)
  simp only [show walkE sm13 ⟨0, 50, false⟩ 50 = (⟨0, 100, false⟩, 0) from by kernel_rfl] at h2
  have H2 := Lib.hid h2
  have h3 := fun a W h hc => opl_walk sm13 a ⟨0, 50, false⟩ 51 W h hlt hc (by omega)
  simp only [show walkE sm13 ⟨0, 50, false⟩ 51 = (⟨0, 0, false⟩, 140) from by kernel_rfl] at h3
  have H3 := Lib.hid h3
  have h4 := fun a W A h hc hp => opl_on sm13 a [⟨0, false⟩, ⟨1, false⟩] A 2 2 ⟨1, 30, false⟩ W h hlt hc hp (by omega) (by omega)
  simp only [show onE sm13 [⟨0, false⟩, ⟨1, false⟩] ⟨1, 30, false⟩ = (130, 0) from by kernel_rfl] at h4
  have H4 := Lib.hid h4
  clear h1 h2 h3 h4 hlt
  have HB0 := Lib.hid (Below.refl w.heap.size w)
  go_enter Try.func8, Try.ntmps8
  go_upto_region 1 with fail
  go_wp2_with fail
  refine (small_any w).mono ?_
  rintro e v1 ⟨a1, rfl, ht, hc, hb⟩
  have HK := Lib.hid (H1.out a1 v1 ht hc)
  have HS1 := Lib.hid (HB0.out.trans (hb.mono HB0.out.size))
  clear ht hc hb
  go_wp2_with fail
  refine HK.out.mono ?_
  rintro e x1 ⟨rfl, hb⟩
  clear HK
  have hm : Has (x1.alloc (.cells #[.int .i64 0, .int .i64 0, .bool false] 29)) x1.heap.size 29 #[.int .i64 0, .int .i64 0, .bool false] := Has.made _ _ _
  have HM := Lib.hid hm
  obtain ⟨u1, hu1⟩ : ∃ u_, (x1.alloc (.cells #[.int .i64 0, .int .i64 0, .bool false] 29)).setRow x1.heap.size (psA ⟨0, 50, true⟩) = u_ := ⟨_, rfl⟩
  have hbu : Below x1.heap.size x1 u1 := by rw [← hu1]; exact below_row (g := x1.heap.size) ((Below.refl _ _).alloc (Nat.le_refl _) _) (Nat.le_refl _) _
  have HX1 := Lib.hid (show Has u1 x1.heap.size 29 (psA ⟨0, 50, true⟩) from by rw [← hu1]; exact has_row11 hm _)
  have hstep := hb.trans (hbu.mono hb.size)
  have HB1 := Lib.hid (HS1.out.trans (hstep.mono HS1.out.size))
  have HUU := Lib.hid hu1
  clear hm hbu hb hstep hu1
  go_upto_region 2 with (with_reducible refine wpList_store_rowTo (o := ⟨none, _, _, _, _, _⟩) rfl 29 _ _ rfl rfl (x1.heap.size) (psA ⟨0, 50, true⟩) rfl rfl 29 _ (HM.out).raw11 (by kernel_rfl) (by kernel_rfl) (by kernel_rfl) ?_)
  rw [HUU.out]
  clear HUU HM
  go_wp2_with fail
  refine (small_any u1).mono ?_
  rintro e v2 ⟨a2, rfl, ht, hc, hb⟩
  have HK := Lib.hid (H2.out a2 v2 ht hc)
  have HS2 := Lib.hid (HB1.out.trans (hb.mono HB1.out.size))
  have HX1 := Lib.hid (HX1.out.under hb HX1.out.lt)
  clear ht hc hb
  go_wp2_with fail
  refine HK.out.mono ?_
  rintro e x2 ⟨rfl, hb⟩
  clear HK
  have hm : Has (x2.alloc (.cells #[.int .i64 0, .int .i64 0, .bool false] 29)) x2.heap.size 29 #[.int .i64 0, .int .i64 0, .bool false] := Has.made _ _ _
  have HM := Lib.hid hm
  obtain ⟨u2, hu2⟩ : ∃ u_, (x2.alloc (.cells #[.int .i64 0, .int .i64 0, .bool false] 29)).setRow x2.heap.size (psA ⟨0, 100, false⟩) = u_ := ⟨_, rfl⟩
  have hbu : Below x2.heap.size x2 u2 := by rw [← hu2]; exact below_row (g := x2.heap.size) ((Below.refl _ _).alloc (Nat.le_refl _) _) (Nat.le_refl _) _
  have HX2 := Lib.hid (show Has u2 x2.heap.size 29 (psA ⟨0, 100, false⟩) from by rw [← hu2]; exact has_row11 hm _)
  have hstep := hb.trans (hbu.mono hb.size)
  have HB2 := Lib.hid (HS2.out.trans (hstep.mono HS2.out.size))
  have HX1 := Lib.hid (HX1.out.under hstep HX1.out.lt)
  have HUU := Lib.hid hu2
  clear hm hbu hb hstep hu2
  go_upto_region 3 with (with_reducible refine wpList_store_rowTo (o := ⟨none, _, _, _, _, _⟩) rfl 29 _ _ rfl rfl (x2.heap.size) (psA ⟨0, 100, false⟩) rfl rfl 29 _ (HM.out).raw11 (by kernel_rfl) (by kernel_rfl) (by kernel_rfl) ?_)
  rw [HUU.out]
  clear HUU HM
  go_wp2_with fail
  refine (small_any u2).mono ?_
  rintro e v3 ⟨a3, rfl, ht, hc, hb⟩
  have HK := Lib.hid (H3.out a3 v3 ht hc)
  have HS3 := Lib.hid (HB2.out.trans (hb.mono HB2.out.size))
  have HX1 := Lib.hid (HX1.out.under hb HX1.out.lt)
  have HX2 := Lib.hid (HX2.out.under hb HX2.out.lt)
  clear ht hc hb
  go_wp2_with fail
  refine HK.out.mono ?_
  rintro e x3 ⟨rfl, hb⟩
  clear HK
  have hm : Has (x3.alloc (.cells #[.int .i64 0, .int .i64 0, .bool false] 29)) x3.heap.size 29 #[.int .i64 0, .int .i64 0, .bool false] := Has.made _ _ _
  have HM := Lib.hid hm
  obtain ⟨u3, hu3⟩ : ∃ u_, (x3.alloc (.cells #[.int .i64 0, .int .i64 0, .bool false] 29)).setRow x3.heap.size (psA ⟨0, 0, false⟩) = u_ := ⟨_, rfl⟩
  have hbu : Below x3.heap.size x3 u3 := by rw [← hu3]; exact below_row (g := x3.heap.size) ((Below.refl _ _).alloc (Nat.le_refl _) _) (Nat.le_refl _) _
  have HX3 := Lib.hid (show Has u3 x3.heap.size 29 (psA ⟨0, 0, false⟩) from by rw [← hu3]; exact has_row11 hm _)
  have hstep := hb.trans (hbu.mono hb.size)
  have HB3 := Lib.hid (HS3.out.trans (hstep.mono HS3.out.size))
  have HX1 := Lib.hid (HX1.out.under hstep HX1.out.lt)
  have HX2 := Lib.hid (HX2.out.under hstep HX2.out.lt)
  have HUU := Lib.hid hu3
  clear hm hbu hb hstep hu3
  go_upto_region 4 with (with_reducible refine wpList_store_rowTo (o := ⟨none, _, _, _, _, _⟩) rfl 29 _ _ rfl rfl (x3.heap.size) (psA ⟨0, 0, false⟩) rfl rfl 29 _ (HM.out).raw11 (by kernel_rfl) (by kernel_rfl) (by kernel_rfl) ?_)
  rw [HUU.out]
  clear HUU HM
  go_wp2_with fail
  refine (small_any u3).mono ?_
  rintro e v5 ⟨a5, rfl, ht5, hc5, hb⟩
  have HB5 := Lib.hid (HB3.out.trans (hb.mono HB3.out.size))
  have HX1 := Lib.hid (HX1.out.under hb HX1.out.lt)
  have HX2 := Lib.hid (HX2.out.under hb HX2.out.lt)
  have HX3 := Lib.hid (HX3.out.under hb HX3.out.lt)
  have HT5 := Lib.hid ht5
  have HC5 := Lib.hid hc5
  clear hb ht5 hc5
  obtain ⟨v6, hv6⟩ : ∃ v6, v5.alloc (.cells #[.int .i64 0, .bool false, .int .i64 1, .bool false] 45) = v6 := ⟨_, rfl⟩
  have hb : Below v5.heap.size v5 v6 := by rw [← hv6]; exact (Below.refl _ _).alloc (Nat.le_refl _) _
  have hx6 : Has v6 v5.heap.size 45 #[.int .i64 0, .bool false, .int .i64 1, .bool false] := by rw [← hv6]; exact Has.made _ _ _
  have hs6 : SlO stC 2 v6 (some ⟨v5.heap.size, 0, none⟩) 2 2 [⟨0, false⟩, ⟨1, false⟩] := ⟨rfl, sl_has13 hx6 rfl⟩
  have HK := Lib.hid (H4.out a5 v6 (some ⟨v5.heap.size, 0, none⟩) (HT5.out.under hb) HC5.out hs6)
  have HB6 := Lib.hid (HB5.out.trans (hb.mono HB5.out.size))
  have HX1 := Lib.hid (HX1.out.under hb HX1.out.lt)
  have HX2 := Lib.hid (HX2.out.under hb HX2.out.lt)
  have HX3 := Lib.hid (HX3.out.under hb HX3.out.lt)
  have HV6 := Lib.hid hv6
  clear hv6 hb hx6 hs6 HB5
  go_wp2_with fail
  rw [HV6.out]
  refine HK.out.mono ?_
  rintro e v7 ⟨rfl, hb⟩
  have HB7 := Lib.hid (HB6.out.trans (hb.mono HB6.out.size))
  have HX1 := Lib.hid (HX1.out.under hb HX1.out.lt)
  have HX2 := Lib.hid (HX2.out.under hb HX2.out.lt)
  have HX3 := Lib.hid (HX3.out.under hb HX3.out.lt)
  clear hb HK HV6 HT5 HB6
  have f10 : v7.cell? ⟨x1.heap.size, 0, none⟩ = some (.int .i64 0) := HX1.out.cell 0
  have f11 : v7.cell? ⟨x1.heap.size, 1, none⟩ = some (.int .i64 50) := HX1.out.cell 1
  have f12 : v7.cell? ⟨x1.heap.size, 2, none⟩ = some (.bool true) := HX1.out.cell 2
  have f20 : v7.cell? ⟨x2.heap.size, 0, none⟩ = some (.int .i64 0) := HX2.out.cell 0
  have f21 : v7.cell? ⟨x2.heap.size, 1, none⟩ = some (.int .i64 100) := HX2.out.cell 1
  have f22 : v7.cell? ⟨x2.heap.size, 2, none⟩ = some (.bool false) := HX2.out.cell 2
  have q1 := eq_ps14 ⟨0, 50, true⟩ ⟨0, 50, true⟩
  have q2 := eq_ps14 ⟨0, 100, false⟩ ⟨0, 100, false⟩
  rw [show eqP ⟨0, 50, true⟩ ⟨0, 50, true⟩ = true from by kernel_rfl] at q1
  rw [show eqP ⟨0, 100, false⟩ ⟨0, 100, false⟩ = true from by kernel_rfl] at q2
  unfold psA at q1 q2
  go_wp2_with fail
  go_ret
  exact ⟨by first | rfl | simp, HB7.out⟩
end Go.Proofs.Ytfchmjldhefmkaa
