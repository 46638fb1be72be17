/-
  linesidelaw16: Line, awake.
-/
import Derived.Test.YteioefgckigbcaaMgO

import Derived.Test.YteioefgckigbcaaMgR

import Derived.Test.YteioefgckigbcaaSnF

import Derived.BigQuiet

import Derived.IntWalk

namespace Go.Proofs.Yteioefgckigbcaa

open Go.RowKit

open Go.Great

def lineT : Tp3 := ⟨[100, 200, 300], [⟨(0, 1), (1, 0)⟩, ⟨(1, 1), (2, 0)⟩], [⟨7, 0, 10⟩, ⟨8, 1, 20⟩, ⟨9, 2, 30⟩], [⟨1, [⟨0, false⟩, ⟨1, false⟩], 0, 30⟩, ⟨2, [⟨1, false⟩, ⟨2, false⟩], 50, 20⟩]⟩
theorem line_light : lightT lineT = true := by decide +kernel
set_option maxRecDepth 100000 in
set_option maxHeartbeats 8000000 in
theorem line_any (w : World) :
    Calls Try.prog 14 #[] w fun e w' => ∃ a : TpA, e = .returned (.agg (tpC lineT a)) ∧ TopR w' lineT a ∧ lineT.joints.length ≤ a.cj ∧ Below w.heap.size w w' := by
  obtain ⟨wa, hwa⟩ : ∃ wa, ((((((w.alloc (.cells #[.slice none 0 0, .slice none 0 0, .slice none 0 0, .slice none 0 0] 27)).alloc (.cells #[.int .i64 100, .int .i64 200, .int .i64 300] 3)).alloc (.cells #[.int .i64 0, .int .i64 1, .int .i64 1, .int .i64 0, .int .i64 1, .int .i64 1, .int .i64 2, .int .i64 0] 71)).alloc (.cells #[.int .i64 7, .int .i64 0, .int .i64 10, .int .i64 8, .int .i64 1, .int .i64 20, .int .i64 9, .int .i64 2, .int .i64 30] 73)).alloc (.cells #[.int .i64 0, .bool false, .int .i64 1, .bool false] 75)).alloc (.cells #[.int .i64 1, .bool false, .int .i64 2, .bool false] 75)).alloc (.cells #[.int .i64 1, .slice (some ⟨w.heap.size + 1 + 1 + 1 + 1, 0, none⟩) 2 2, .int .i64 0, .int .i64 30, .int .i64 2, .slice (some ⟨w.heap.size + 1 + 1 + 1 + 1 + 1, 0, none⟩) 2 2, .int .i64 50, .int .i64 20] 61) = wa := ⟨_, rfl⟩
  have hbwa : Below w.heap.size w wa := by rw [← hwa]; exact (((((((Below.refl _ _).alloc (Nat.le_refl _) _).alloc (by simp) _).alloc (by simp; omega) _).alloc (by simp; omega) _).alloc (by simp; omega) _).alloc (by simp; omega) _).alloc (by simp; omega) _
  have h0 : Has wa (w.heap.size) 27 #[.slice none 0 0, .slice none 0 0, .slice none 0 0, .slice none 0 0] := by rw [← hwa]; exact (((((((Has.made _ _ _).beside _).beside _).beside _).beside _).beside _).beside _)
  have h1 : Has wa (w.heap.size + 1) 3 #[.int .i64 100, .int .i64 200, .int .i64 300] := by rw [← hwa]; exact ((((((has_at11 (by simp)).beside _).beside _).beside _).beside _).beside _)
  have h2 : Has wa (w.heap.size + 1 + 1) 71 #[.int .i64 0, .int .i64 1, .int .i64 1, .int .i64 0, .int .i64 1, .int .i64 1, .int .i64 2, .int .i64 0] := by rw [← hwa]; exact (((((has_at11 (by simp)).beside _).beside _).beside _).beside _)
  have h3 : Has wa (w.heap.size + 1 + 1 + 1) 73 #[.int .i64 7, .int .i64 0, .int .i64 10, .int .i64 8, .int .i64 1, .int .i64 20, .int .i64 9, .int .i64 2, .int .i64 30] := by rw [← hwa]; exact ((((has_at11 (by simp)).beside _).beside _).beside _)
  have h4 : Has wa (w.heap.size + 1 + 1 + 1 + 1) 75 #[.int .i64 0, .bool false, .int .i64 1, .bool false] := by rw [← hwa]; exact (((has_at11 (by simp)).beside _).beside _)
  have h5 : Has wa (w.heap.size + 1 + 1 + 1 + 1 + 1) 75 #[.int .i64 1, .bool false, .int .i64 2, .bool false] := by rw [← hwa]; exact ((has_at11 (by simp)).beside _)
  have h6 : Has wa (w.heap.size + 1 + 1 + 1 + 1 + 1 + 1) 61 #[.int .i64 1, .slice (some ⟨w.heap.size + 1 + 1 + 1 + 1, 0, none⟩) 2 2, .int .i64 0, .int .i64 30, .int .i64 2, .slice (some ⟨w.heap.size + 1 + 1 + 1 + 1 + 1, 0, none⟩) 2 2, .int .i64 50, .int .i64 20] := by rw [← hwa]; exact (has_at11 (by simp))
  have HWA := Lib.hid hwa; have HBWA := Lib.hid hbwa
  have HR := Lib.hid (has_row11 h0 #[.slice (some ⟨w.heap.size + 1, 0, none⟩) 3 3, .slice (some ⟨w.heap.size + 1 + 1, 0, none⟩) 2 2, .slice (some ⟨w.heap.size + 1 + 1 + 1, 0, none⟩) 3 3, .slice (some ⟨w.heap.size + 1 + 1 + 1 + 1 + 1 + 1, 0, none⟩) 2 2])
  have HBF := Lib.hid (below_row (g := w.heap.size) hbwa (Nat.le_refl _) #[.slice (some ⟨w.heap.size + 1, 0, none⟩) 3 3, .slice (some ⟨w.heap.size + 1 + 1, 0, none⟩) 2 2, .slice (some ⟨w.heap.size + 1 + 1 + 1, 0, none⟩) 3 3, .slice (some ⟨w.heap.size + 1 + 1 + 1 + 1 + 1 + 1, 0, none⟩) 2 2])
  have k1 := has_rowo11 (g := w.heap.size) h1 (by omega) #[.slice (some ⟨w.heap.size + 1, 0, none⟩) 3 3, .slice (some ⟨w.heap.size + 1 + 1, 0, none⟩) 2 2, .slice (some ⟨w.heap.size + 1 + 1 + 1, 0, none⟩) 3 3, .slice (some ⟨w.heap.size + 1 + 1 + 1 + 1 + 1 + 1, 0, none⟩) 2 2]
  have k2 := has_rowo11 (g := w.heap.size) h2 (by omega) #[.slice (some ⟨w.heap.size + 1, 0, none⟩) 3 3, .slice (some ⟨w.heap.size + 1 + 1, 0, none⟩) 2 2, .slice (some ⟨w.heap.size + 1 + 1 + 1, 0, none⟩) 3 3, .slice (some ⟨w.heap.size + 1 + 1 + 1 + 1 + 1 + 1, 0, none⟩) 2 2]
  have k3 := has_rowo11 (g := w.heap.size) h3 (by omega) #[.slice (some ⟨w.heap.size + 1, 0, none⟩) 3 3, .slice (some ⟨w.heap.size + 1 + 1, 0, none⟩) 2 2, .slice (some ⟨w.heap.size + 1 + 1 + 1, 0, none⟩) 3 3, .slice (some ⟨w.heap.size + 1 + 1 + 1 + 1 + 1 + 1, 0, none⟩) 2 2]
  have k4 := has_rowo11 (g := w.heap.size) h4 (by omega) #[.slice (some ⟨w.heap.size + 1, 0, none⟩) 3 3, .slice (some ⟨w.heap.size + 1 + 1, 0, none⟩) 2 2, .slice (some ⟨w.heap.size + 1 + 1 + 1, 0, none⟩) 3 3, .slice (some ⟨w.heap.size + 1 + 1 + 1 + 1 + 1 + 1, 0, none⟩) 2 2]
  have k5 := has_rowo11 (g := w.heap.size) h5 (by omega) #[.slice (some ⟨w.heap.size + 1, 0, none⟩) 3 3, .slice (some ⟨w.heap.size + 1 + 1, 0, none⟩) 2 2, .slice (some ⟨w.heap.size + 1 + 1 + 1, 0, none⟩) 3 3, .slice (some ⟨w.heap.size + 1 + 1 + 1 + 1 + 1 + 1, 0, none⟩) 2 2]
  have k6 := has_rowo11 (g := w.heap.size) h6 (by omega) #[.slice (some ⟨w.heap.size + 1, 0, none⟩) 3 3, .slice (some ⟨w.heap.size + 1 + 1, 0, none⟩) 2 2, .slice (some ⟨w.heap.size + 1 + 1 + 1, 0, none⟩) 3 3, .slice (some ⟨w.heap.size + 1 + 1 + 1 + 1 + 1 + 1, 0, none⟩) 2 2]
  obtain ⟨wz, hwz⟩ : ∃ wz, wa.setRow w.heap.size #[.slice (some ⟨w.heap.size + 1, 0, none⟩) 3 3, .slice (some ⟨w.heap.size + 1 + 1, 0, none⟩) 2 2, .slice (some ⟨w.heap.size + 1 + 1 + 1, 0, none⟩) 3 3, .slice (some ⟨w.heap.size + 1 + 1 + 1 + 1 + 1 + 1, 0, none⟩) 2 2] = wz := ⟨_, rfl⟩
  rw [hwz] at HR HBF k1 k2 k3 k4 k5 k6
  have HT : Hid (TopR wz lineT ⟨some ⟨w.heap.size + 1, 0, none⟩, 3, some ⟨w.heap.size + 1 + 1, 0, none⟩, 2, some ⟨w.heap.size + 1 + 1 + 1, 0, none⟩, 3, some ⟨w.heap.size + 1 + 1 + 1 + 1 + 1 + 1, 0, none⟩, 2⟩) := Lib.hid ⟨⟨rfl, sl_hasR k1 rfl⟩, ⟨rfl, sl_hasR k2 rfl⟩, ⟨rfl, sl_hasR k3 rfl⟩, ⟨[(⟨1, [⟨0, false⟩, ⟨1, false⟩], 0, 30⟩, .slice (some ⟨w.heap.size + 1 + 1 + 1 + 1, 0, none⟩) 2 2), (⟨2, [⟨1, false⟩, ⟨2, false⟩], 50, 20⟩, .slice (some ⟨w.heap.size + 1 + 1 + 1 + 1 + 1, 0, none⟩) 2 2)], rfl, ⟨rfl, sl_hasR k6 rfl⟩, fun p hp => by
    simp only [List.mem_cons, List.not_mem_nil, or_false] at hp
    rcases hp with rfl | rfl
    · exact ⟨⟨some ⟨w.heap.size + 1 + 1 + 1 + 1, 0, none⟩, 2, rfl, rfl, sl_hasR k4 rfl⟩, fun A n c e => by cases e; exact Nat.le_refl _⟩
    · exact ⟨⟨some ⟨w.heap.size + 1 + 1 + 1 + 1 + 1, 0, none⟩, 2, rfl, rfl, sl_hasR k5 rfl⟩, fun A n c e => by cases e; exact Nat.le_refl _⟩⟩⟩
  have HZ := Lib.hid h0
  have HWZ := Lib.hid hwz
  clear hwz hwa hbwa h0 h1 h2 h3 h4 h5 h6 k1 k2 k3 k4 k5 k6
  go_enter Try.func14, Try.ntmps14
  go_upto_region 1 with fail
  go_wp2_with (first | (rw [HWA.out]; with_reducible refine wpList_store_rowTo (o := ⟨none, _, _, _, _, _⟩) rfl 27 _ _ rfl rfl (w.heap.size) #[.slice (some ⟨w.heap.size + 1, 0, none⟩) 3 3, .slice (some ⟨w.heap.size + 1 + 1, 0, none⟩) 2 2, .slice (some ⟨w.heap.size + 1 + 1 + 1, 0, none⟩) 3 3, .slice (some ⟨w.heap.size + 1 + 1 + 1 + 1 + 1 + 1, 0, none⟩) 2 2] rfl rfl 27 _ (HZ.out).raw11 (by kernel_rfl) (by kernel_rfl) (by kernel_rfl) ?_))
  rw [HWZ.out]
  refine bodyPost_ret (results_cell_row rfl _ _ (w.heap.size) 27 _ _ _ rfl HR.out Try.underlying27 rfl (by kernel_rfl)) rfl ?_
  exact ⟨_, rfl, HT.out, Nat.le_refl _, HBF.out⟩

theorem a16_1 : setE lineT ⟨[], 1⟩ 1 5 = (⟨[⟨1, 5, 1⟩], 2⟩, 1, 0) := by kernel_rfl
theorem a16_2 : setE lineT ⟨[⟨1, 5, 1⟩], 2⟩ 2 6 = (zeroI, 0, 160) := by kernel_rfl
theorem a16_3 : setE lineT ⟨[⟨1, 5, 1⟩], 2⟩ 2 5 = (⟨[⟨1, 5, 1⟩, ⟨2, 5, 2⟩], 3⟩, 2, 0) := by kernel_rfl
theorem a16_4 : freeE lineT ⟨[⟨1, 5, 1⟩, ⟨2, 5, 2⟩], 3⟩ 1 = (⟨[⟨2, 5, 2⟩], 3⟩, 0) := by kernel_rfl
theorem a16_5 : setE lineT ⟨[⟨2, 5, 2⟩], 3⟩ 1 6 = (zeroI, 0, 160) := by kernel_rfl
theorem a16_6 : mayB lineT ⟨[⟨1, 5, 1⟩, ⟨2, 5, 2⟩], 3⟩ = true := by kernel_rfl
theorem a16_7 : totalL (lockedL lineT [⟨1, 5, 1⟩, ⟨2, 5, 2⟩] 5) = 600 := by kernel_rfl
theorem a16_8 : (lockedL lineT [⟨1, 5, 1⟩, ⟨2, 5, 2⟩] 5).length = 3 := by kernel_rfl
set_option maxRecDepth 100000 in
set_option maxHeartbeats 8000000 in
theorem awake16_any (w : World) :
    Calls Try.prog 5 #[] w fun e w' => e = .returned (.bool true) ∧ Below w.heap.size w w' := by
  go_enter Try.func5, Try.ntmps5
  go_wp2_with fail
  refine (line_any w).mono ?_
  rintro e_ v1 ⟨a1, rfl, ht1, hcj1, hb1⟩
  have HT := Lib.hid ht1; have HCJ := Lib.hid hcj1; have HB1 := Lib.hid hb1
  clear ht1 hcj1 hb1
  go_wp2_with fail
  refine (olc_new v1).mono ?_
  rintro e_ v2 ⟨X, x, rfl, hk, hb2⟩
  have HT2 := Lib.hid (HT.out.under hb2)
  have HK := Lib.hid hk
  have HB2 := Lib.hid (HB1.out.trans (hb2.mono HB1.out.size))
  clear hk hb2 HB1
  go_wp2_with fail
  refine (olc_set lineT a1 [] 1 X 0 x v2 1 5 HT2.out line_light HCJ.out HK.out.1 HK.out.2.1 (by omega)).mono ?_
  rw [a16_1]
  rintro e_ v3 ⟨X1, k1, x1, rfl, hl1, hb3⟩
  obtain rfl : 1 = k1 := hl1.1.1
  have HL1 := Lib.hid hl1
  have HB3 := Lib.hid (HB2.out.trans (hb3.mono HB2.out.size))
  clear hl1 hb3 HB2 HT2 HK HT HCJ
  dsimp only
  go_upto_region 2 with fail
  obtain ⟨u1, hu1⟩ : ∃ u1, v3.alloc (.cells #[.slice X1 1 x1, .int .i64 2] 34) = u1 := ⟨_, rfl⟩
  rw [hu1]
  have HX1 : Hid (Has u1 v3.heap.size 34 #[.slice X1 1 x1, .int .i64 2]) := Lib.hid (by rw [← hu1]; exact Has.made _ _ _)
  have HK1 := Lib.hid (show LkT u1 X1 1 x1 [⟨1, 5, 1⟩] from HL1.out.under (by rw [← hu1]; exact (Below.refl _ _).alloc (Nat.le_refl _) _))
  have HB := Lib.hid (show Below w.heap.size w u1 from by rw [← hu1]; exact HB3.out.alloc HB3.out.size _)
  obtain ⟨g1, hg1⟩ : ∃ g, v3.heap.size = g := ⟨_, rfl⟩
  rw [hg1] at HX1
  simp only [hg1]
  have HGW := Lib.hid (show w.heap.size ≤ g1 from by rw [← hg1]; exact HB3.out.size)
  clear hu1 hg1 HL1 HB3
  go_cut [6] (fun s6 wx => s6 = .int .i64 160 ∧ Has wx g1 34 #[.slice X1 1 x1, .int .i64 2] ∧ LkT wx X1 1 x1 [⟨1, 5, 1⟩] ∧ Below w.heap.size w wx)
  case first =>
    refine wp_region_held_drew (S := (fun W_ => (Has W_ (g1) 34 #[.slice X1 1 x1, .int .i64 2]) ∧ (LkT W_ X1 1 x1 ([⟨1, 5, 1⟩])) ∧ (Below w.heap.size w W_))) (by kernel_rfl) ?_ (fun hHeld => ?_)
    · exact ⟨HX1.out.draw, HK1.out.under (below_dr11 (Below.refl _ _)), below_dr11 HB.out⟩
    refine wpAnyH_take (i := 1) (oi := ⟨some 23, _, _, _, _, _⟩) (v := .agg #[.slice X1 1 x1, .int .i64 2]) rfl (by kernel_rfl) (by kernel_rfl) (by kernel_rfl) (fun _ _ _ h => h) (yields_load_row11 34 _ rfl (g1) rfl 34 #[.slice X1 1 x1, .int .i64 2] _ (fun _ ⟨h_, _, _⟩ => h_) Try.underlying34 rfl (by kernel_rfl) (by rfl)) (by assumption) ?_
    simp only [Act.put, List.setIfInBounds_toArray, List.set_cons_zero, List.set_cons_succ]
    refine wpAnyH_ready (rs := [0, 7]) (by kernel_rfl) (by simp) ?_
    refine AllReadyH.cons (o := ⟨some 22, _, _, _, _, _⟩) rfl (fun K hK => ?_) ?_
    · go_simp
      obtain ⟨s0, s1, s2⟩ := hHeld
      refine (line_any _).mono ?_
      rintro e_ q2 ⟨a2, rfl, ht_, hcj_, hb_⟩
      have HCJ2 := Lib.hid hcj_
      have HT2 := Lib.hid (ht_)
      go_wp2_with fail
      refine hK.out _ _ ?_ (fun hHeld => ?_)
      · exact ⟨s0.under hb_ s0.lt, s1.under hb_, s2.trans (hb_.mono s2.size)⟩
      clear hK K s0 s1 s2
      try simp only [Act.put, List.setIfInBounds_toArray, List.set_cons_zero, List.set_cons_succ]
      refine wpAnyH_ready (rs := [2, 7]) (by kernel_rfl) (by simp) ?_
      refine AllReadyH.cons (o := ⟨some 24, _, _, _, _, _⟩) rfl (fun K hK => ?_) ?_
      · go_simp
        obtain ⟨s0, s1, s2⟩ := hHeld
        refine (olc_set lineT a2 [⟨1, 5, 1⟩] 2 X1 1 x1 _ 2 6 HT2.out line_light HCJ2.out s1.1 s1.2.1 (by omega)).mono ?_
        rw [a16_2]
        rintro e_ q3 ⟨X2, k2, x2, rfl, hl_, hb_⟩
        obtain rfl : 0 = k2 := hl_.1.1
        unfold zeroI
        dsimp only
        have HT2 := Lib.hid (HT2.out.under hb_)
        go_wp2_with fail
        refine hK.out _ _ ?_ (fun hHeld => ?_)
        · exact ⟨s0.under hb_ s0.lt, s1.under hb_, s2.trans (hb_.mono s2.size)⟩
        clear hK K s0 s1 s2
        try simp only [Act.put, List.setIfInBounds_toArray, List.set_cons_zero, List.set_cons_succ]
        refine wpAnyH_take (i := 3) (oi := ⟨some 21, _, _, _, _, _⟩) (v := ?_) rfl (by kernel_rfl) (by kernel_rfl) (by kernel_rfl) (fun _ _ _ h => h) (Or.inl ⟨by rfl, ?_⟩) (by assumption) ?_
        rotate_left
        · intro w_ hSw; (try dsimp only at hSw); go_simp <;> with_reducible rfl
        simp only [Act.put, List.setIfInBounds_toArray, List.set_cons_zero, List.set_cons_succ]
        refine wpAnyH_take (i := 4) (oi := ⟨some 25, _, _, _, _, _⟩) (v := ?_) rfl (by kernel_rfl) (by kernel_rfl) (by kernel_rfl) (fun _ _ _ h => h) (Or.inl ⟨by rfl, ?_⟩) (by assumption) ?_
        rotate_left
        · intro w_ hSw; (try dsimp only at hSw); go_simp <;> with_reducible rfl
        simp only [Act.put, List.setIfInBounds_toArray, List.set_cons_zero, List.set_cons_succ]
        refine wpAnyH_take (i := 5) (oi := ⟨some 26, _, _, _, _, _⟩) (v := ?_) rfl (by kernel_rfl) (by kernel_rfl) (by kernel_rfl) (fun _ _ _ h => h) (Or.inl ⟨by rfl, ?_⟩) (by assumption) ?_
        rotate_left
        · intro w_ hSw; (try dsimp only at hSw); go_simp <;> with_reducible rfl
        simp only [Act.put, List.setIfInBounds_toArray, List.set_cons_zero, List.set_cons_succ]
        refine wpAnyH_take (i := 6) (oi := ⟨some 27, _, _, _, _, _⟩) (v := ?_) rfl (by kernel_rfl) (by kernel_rfl) (by kernel_rfl) (fun _ _ _ h => h) (Or.inl ⟨by rfl, ?_⟩) (by assumption) ?_
        rotate_left
        · intro w_ hSw; (try dsimp only at hSw); go_simp <;> with_reducible rfl
        simp only [Act.put, List.setIfInBounds_toArray, List.set_cons_zero, List.set_cons_succ]
        refine wpAnyH_ready (rs := [7]) (by kernel_rfl) (by simp) ?_
        refine AllReadyH.cons (o := ⟨some 4, _, _, _, _, _⟩) rfl (fun K hK => ?_) ?_
        · go_simp
          obtain ⟨s0, s1, s2⟩ := hHeld
          obtain ⟨ga, hga⟩ : ∃ ga, q3.heap.size = ga := ⟨_, rfl⟩
          have p0_ga : g1 < ga := by rw [← hga]; exact s0.lt
          have p2_ga : w.heap.size ≤ ga := by rw [← hga]; exact s2.size
          rw [hga]
          refine hK.out _ _ ?_ (fun hHeld => ?_)
          · exact ⟨s0.beside _, s1.under ((Below.refl _ _).alloc (Nat.le_refl _) _), below_al11 s2 _⟩
          have HT2 := Lib.hid (HT2.out.under ((Below.refl _ _).alloc (Nat.le_refl _) (.cells #[.slice none 0 0, .int .i64 0] 34)))
          refine wpAnyH_more11 (T := (fun W_ => (Has W_ (g1) 34 #[.slice X1 1 x1, .int .i64 2]) ∧ (LkT W_ X1 1 x1 ([⟨1, 5, 1⟩])) ∧ (Below w.heap.size w W_) ∧ (∃ o_ : Array Value, Has W_ (ga) 34 o_ ∧ o_.size = 2))) (fun _ ⟨s0, s1, s2, s3⟩ => ⟨s0, s1, s2⟩) ?_
          have hHeld2 : (fun W_ => (Has W_ (g1) 34 #[.slice X1 1 x1, .int .i64 2]) ∧ (LkT W_ X1 1 x1 ([⟨1, 5, 1⟩])) ∧ (Below w.heap.size w W_) ∧ (∃ o_ : Array Value, Has W_ (ga) 34 o_ ∧ o_.size = 2)) _ := ⟨s0.beside _, s1.under ((Below.refl _ _).alloc (Nat.le_refl _) _), below_al11 s2 _, ⟨#[.slice none 0 0, .int .i64 0], (by rw [← hga]; exact Has.made _ _ _), rfl⟩⟩
          clear hHeld
          have hHeld := hHeld2
          clear hHeld2
          clear hK K hga s0 s1 s2
          try simp only [Act.put, List.setIfInBounds_toArray, List.set_cons_zero, List.set_cons_succ]
          refine wpAnyH_ready (rs := [8]) (by kernel_rfl) (by simp) ?_
          refine AllReadyH.cons (o := ⟨none, _, _, _, _, _⟩) rfl (fun K hK => ?_) ?_
          · rw [if_pos (by rfl)]
            obtain ⟨s0, s1, s2, s3⟩ := hHeld
            obtain ⟨o_, h_, e_⟩ := s3
            refine wp_store_row 34 _ _ rfl (ga) #[.slice X2 0 x2, .int .i64 0] (by rfl) (by rfl) 34 o_ h_.raw11 (by kernel_rfl) e_ (by kernel_rfl) ?_
            refine hK.out _ _ ?_ (fun hHeld => ?_)
            · exact ⟨has_rowo11 s0 (by omega) _, s1.row h_ (by decide) _, below_row s2 (by omega) _, ⟨_, has_row11 h_ _, rfl⟩⟩
            refine wpAnyH_more11 (T := (fun W_ => (Has W_ (g1) 34 #[.slice X1 1 x1, .int .i64 2]) ∧ (LkT W_ X1 1 x1 ([⟨1, 5, 1⟩])) ∧ (Below w.heap.size w W_) ∧ (∃ o_ : Array Value, Has W_ (ga) 34 o_ ∧ o_.size = 2) ∧ (Has W_ (ga) 34 #[.slice X2 0 x2, .int .i64 0]))) (fun _ ⟨s0, s1, s2, s3, s4⟩ => ⟨s0, s1, s2, s3⟩) ?_
            have hHeld2 : (fun W_ => (Has W_ (g1) 34 #[.slice X1 1 x1, .int .i64 2]) ∧ (LkT W_ X1 1 x1 ([⟨1, 5, 1⟩])) ∧ (Below w.heap.size w W_) ∧ (∃ o_ : Array Value, Has W_ (ga) 34 o_ ∧ o_.size = 2) ∧ (Has W_ (ga) 34 #[.slice X2 0 x2, .int .i64 0])) _ := ⟨has_rowo11 s0 (by omega) _, s1.row h_ (by decide) _, below_row s2 (by omega) _, ⟨_, has_row11 h_ _, rfl⟩, has_row11 h_ _⟩
            clear hHeld
            have hHeld := hHeld2
            clear hHeld2
            clear hK K h_ e_ s0 s1 s2
            try simp only [Act.put]
            refine wpAnyH_take (i := 9) (oi := ⟨some 5, _, _, _, _, _⟩) (v := ?_) rfl (by kernel_rfl) (by kernel_rfl) (by kernel_rfl) (fun _ _ _ h => h) (Or.inl ⟨by rfl, ?_⟩) (by assumption) ?_
            rotate_left
            · intro w_ hSw; (try dsimp only at hSw); go_simp <;> with_reducible rfl
            simp only [Act.put, List.setIfInBounds_toArray, List.set_cons_zero, List.set_cons_succ]
            refine wpAnyH_take (i := 10) (oi := ⟨some 6, _, _, _, _, _⟩) (v := ?_) rfl (by kernel_rfl) (by kernel_rfl) (by kernel_rfl) (fun _ _ _ h => h) (Or.inl ⟨by rfl, ?_⟩) (by assumption) ?_
            rotate_left
            · intro w_ hSw; (try dsimp only at hSw); go_simp <;> with_reducible rfl
            simp only [Act.put, List.setIfInBounds_toArray, List.set_cons_zero, List.set_cons_succ]
            refine wpAnyH_done (by kernel_rfl) ?_ _
            go_wp2_with fail
            go_meet
            exact ⟨rfl, hHeld.1, hHeld.2.1, hHeld.2.2.1⟩
          exact AllReadyH.nil
        exact AllReadyH.nil
      refine AllReadyH.cons (o := ⟨some 4, _, _, _, _, _⟩) rfl (fun K hK => ?_) ?_
      · go_simp
        obtain ⟨s0, s1, s2⟩ := hHeld
        obtain ⟨ga, hga⟩ : ∃ ga, q2.heap.size = ga := ⟨_, rfl⟩
        have p0_ga : g1 < ga := by rw [← hga]; exact s0.lt
        have p2_ga : w.heap.size ≤ ga := by rw [← hga]; exact s2.size
        rw [hga]
        refine hK.out _ _ ?_ (fun hHeld => ?_)
        · exact ⟨s0.beside _, s1.under ((Below.refl _ _).alloc (Nat.le_refl _) _), below_al11 s2 _⟩
        have HT2 := Lib.hid (HT2.out.under ((Below.refl _ _).alloc (Nat.le_refl _) (.cells #[.slice none 0 0, .int .i64 0] 34)))
        refine wpAnyH_more11 (T := (fun W_ => (Has W_ (g1) 34 #[.slice X1 1 x1, .int .i64 2]) ∧ (LkT W_ X1 1 x1 ([⟨1, 5, 1⟩])) ∧ (Below w.heap.size w W_) ∧ (∃ o_ : Array Value, Has W_ (ga) 34 o_ ∧ o_.size = 2))) (fun _ ⟨s0, s1, s2, s3⟩ => ⟨s0, s1, s2⟩) ?_
        have hHeld2 : (fun W_ => (Has W_ (g1) 34 #[.slice X1 1 x1, .int .i64 2]) ∧ (LkT W_ X1 1 x1 ([⟨1, 5, 1⟩])) ∧ (Below w.heap.size w W_) ∧ (∃ o_ : Array Value, Has W_ (ga) 34 o_ ∧ o_.size = 2)) _ := ⟨s0.beside _, s1.under ((Below.refl _ _).alloc (Nat.le_refl _) _), below_al11 s2 _, ⟨#[.slice none 0 0, .int .i64 0], (by rw [← hga]; exact Has.made _ _ _), rfl⟩⟩
        clear hHeld
        have hHeld := hHeld2
        clear hHeld2
        clear hK K hga s0 s1 s2
        try simp only [Act.put, List.setIfInBounds_toArray, List.set_cons_zero, List.set_cons_succ]
        refine wpAnyH_ready (rs := [2]) (by kernel_rfl) (by simp) ?_
        refine AllReadyH.cons (o := ⟨some 24, _, _, _, _, _⟩) rfl (fun K hK => ?_) ?_
        · go_simp
          obtain ⟨s0, s1, s2, s3⟩ := hHeld
          refine (olc_set lineT a2 [⟨1, 5, 1⟩] 2 X1 1 x1 _ 2 6 HT2.out line_light HCJ2.out s1.1 s1.2.1 (by omega)).mono ?_
          rw [a16_2]
          rintro e_ q3 ⟨X2, k2, x2, rfl, hl_, hb_⟩
          obtain rfl : 0 = k2 := hl_.1.1
          unfold zeroI
          dsimp only
          have HT2 := Lib.hid (HT2.out.under hb_)
          go_wp2_with fail
          refine hK.out _ _ ?_ (fun hHeld => ?_)
          · exact ⟨s0.under hb_ s0.lt, s1.under hb_, s2.trans (hb_.mono s2.size), (let ⟨o_, h_, e_⟩ := s3; ⟨o_, h_.under hb_ h_.lt, e_⟩)⟩
          clear hK K s0 s1 s2 s3
          try simp only [Act.put, List.setIfInBounds_toArray, List.set_cons_zero, List.set_cons_succ]
          refine wpAnyH_take (i := 3) (oi := ⟨some 21, _, _, _, _, _⟩) (v := ?_) rfl (by kernel_rfl) (by kernel_rfl) (by kernel_rfl) (fun _ _ _ h => h) (Or.inl ⟨by rfl, ?_⟩) (by assumption) ?_
          rotate_left
          · intro w_ hSw; (try dsimp only at hSw); go_simp <;> with_reducible rfl
          simp only [Act.put, List.setIfInBounds_toArray, List.set_cons_zero, List.set_cons_succ]
          refine wpAnyH_take (i := 4) (oi := ⟨some 25, _, _, _, _, _⟩) (v := ?_) rfl (by kernel_rfl) (by kernel_rfl) (by kernel_rfl) (fun _ _ _ h => h) (Or.inl ⟨by rfl, ?_⟩) (by assumption) ?_
          rotate_left
          · intro w_ hSw; (try dsimp only at hSw); go_simp <;> with_reducible rfl
          simp only [Act.put, List.setIfInBounds_toArray, List.set_cons_zero, List.set_cons_succ]
          refine wpAnyH_take (i := 5) (oi := ⟨some 26, _, _, _, _, _⟩) (v := ?_) rfl (by kernel_rfl) (by kernel_rfl) (by kernel_rfl) (fun _ _ _ h => h) (Or.inl ⟨by rfl, ?_⟩) (by assumption) ?_
          rotate_left
          · intro w_ hSw; (try dsimp only at hSw); go_simp <;> with_reducible rfl
          simp only [Act.put, List.setIfInBounds_toArray, List.set_cons_zero, List.set_cons_succ]
          refine wpAnyH_take (i := 6) (oi := ⟨some 27, _, _, _, _, _⟩) (v := ?_) rfl (by kernel_rfl) (by kernel_rfl) (by kernel_rfl) (fun _ _ _ h => h) (Or.inl ⟨by rfl, ?_⟩) (by assumption) ?_
          rotate_left
          · intro w_ hSw; (try dsimp only at hSw); go_simp <;> with_reducible rfl
          simp only [Act.put, List.setIfInBounds_toArray, List.set_cons_zero, List.set_cons_succ]
          refine wpAnyH_ready (rs := [8]) (by kernel_rfl) (by simp) ?_
          refine AllReadyH.cons (o := ⟨none, _, _, _, _, _⟩) rfl (fun K hK => ?_) ?_
          · rw [if_pos (by rfl)]
            obtain ⟨s0, s1, s2, s3⟩ := hHeld
            obtain ⟨o_, h_, e_⟩ := s3
            refine wp_store_row 34 _ _ rfl (ga) #[.slice X2 0 x2, .int .i64 0] (by rfl) (by rfl) 34 o_ h_.raw11 (by kernel_rfl) e_ (by kernel_rfl) ?_
            refine hK.out _ _ ?_ (fun hHeld => ?_)
            · exact ⟨has_rowo11 s0 (by omega) _, s1.row h_ (by decide) _, below_row s2 (by omega) _, ⟨_, has_row11 h_ _, rfl⟩⟩
            refine wpAnyH_more11 (T := (fun W_ => (Has W_ (g1) 34 #[.slice X1 1 x1, .int .i64 2]) ∧ (LkT W_ X1 1 x1 ([⟨1, 5, 1⟩])) ∧ (Below w.heap.size w W_) ∧ (∃ o_ : Array Value, Has W_ (ga) 34 o_ ∧ o_.size = 2) ∧ (Has W_ (ga) 34 #[.slice X2 0 x2, .int .i64 0]))) (fun _ ⟨s0, s1, s2, s3, s4⟩ => ⟨s0, s1, s2, s3⟩) ?_
            have hHeld2 : (fun W_ => (Has W_ (g1) 34 #[.slice X1 1 x1, .int .i64 2]) ∧ (LkT W_ X1 1 x1 ([⟨1, 5, 1⟩])) ∧ (Below w.heap.size w W_) ∧ (∃ o_ : Array Value, Has W_ (ga) 34 o_ ∧ o_.size = 2) ∧ (Has W_ (ga) 34 #[.slice X2 0 x2, .int .i64 0])) _ := ⟨has_rowo11 s0 (by omega) _, s1.row h_ (by decide) _, below_row s2 (by omega) _, ⟨_, has_row11 h_ _, rfl⟩, has_row11 h_ _⟩
            clear hHeld
            have hHeld := hHeld2
            clear hHeld2
            clear hK K h_ e_ s0 s1 s2
            try simp only [Act.put]
            refine wpAnyH_take (i := 9) (oi := ⟨some 5, _, _, _, _, _⟩) (v := ?_) rfl (by kernel_rfl) (by kernel_rfl) (by kernel_rfl) (fun _ _ _ h => h) (Or.inl ⟨by rfl, ?_⟩) (by assumption) ?_
            rotate_left
            · intro w_ hSw; (try dsimp only at hSw); go_simp <;> with_reducible rfl
            simp only [Act.put, List.setIfInBounds_toArray, List.set_cons_zero, List.set_cons_succ]
            refine wpAnyH_take (i := 10) (oi := ⟨some 6, _, _, _, _, _⟩) (v := ?_) rfl (by kernel_rfl) (by kernel_rfl) (by kernel_rfl) (fun _ _ _ h => h) (Or.inl ⟨by rfl, ?_⟩) (by assumption) ?_
            rotate_left
            · intro w_ hSw; (try dsimp only at hSw); go_simp <;> with_reducible rfl
            simp only [Act.put, List.setIfInBounds_toArray, List.set_cons_zero, List.set_cons_succ]
            refine wpAnyH_done (by kernel_rfl) ?_ _
            go_wp2_with fail
            go_meet
            exact ⟨rfl, hHeld.1, hHeld.2.1, hHeld.2.2.1⟩
          exact AllReadyH.nil
        exact AllReadyH.nil
      exact AllReadyH.nil
    refine AllReadyH.cons (o := ⟨some 4, _, _, _, _, _⟩) rfl (fun K hK => ?_) ?_
    · go_simp
      obtain ⟨s0, s1, s2⟩ := hHeld
      obtain ⟨ga, hga⟩ : ∃ ga, u1.heap.size = ga := ⟨_, rfl⟩
      have p0_ga : g1 < ga := by rw [← hga]; exact s0.lt
      have p2_ga : w.heap.size ≤ ga := by rw [← hga]; exact s2.size
      rw [hga]
      refine hK.out _ _ ?_ (fun hHeld => ?_)
      · exact ⟨s0.beside _, s1.under ((Below.refl _ _).alloc (Nat.le_refl _) _), below_al11 s2 _⟩
      refine wpAnyH_more11 (T := (fun W_ => (Has W_ (g1) 34 #[.slice X1 1 x1, .int .i64 2]) ∧ (LkT W_ X1 1 x1 ([⟨1, 5, 1⟩])) ∧ (Below w.heap.size w W_) ∧ (∃ o_ : Array Value, Has W_ (ga) 34 o_ ∧ o_.size = 2))) (fun _ ⟨s0, s1, s2, s3⟩ => ⟨s0, s1, s2⟩) ?_
      have hHeld2 : (fun W_ => (Has W_ (g1) 34 #[.slice X1 1 x1, .int .i64 2]) ∧ (LkT W_ X1 1 x1 ([⟨1, 5, 1⟩])) ∧ (Below w.heap.size w W_) ∧ (∃ o_ : Array Value, Has W_ (ga) 34 o_ ∧ o_.size = 2)) _ := ⟨s0.beside _, s1.under ((Below.refl _ _).alloc (Nat.le_refl _) _), below_al11 s2 _, ⟨#[.slice none 0 0, .int .i64 0], (by rw [← hga]; exact Has.made _ _ _), rfl⟩⟩
      clear hHeld
      have hHeld := hHeld2
      clear hHeld2
      clear hK K hga s0 s1 s2
      try simp only [Act.put, List.setIfInBounds_toArray, List.set_cons_zero, List.set_cons_succ]
      refine wpAnyH_ready (rs := [0]) (by kernel_rfl) (by simp) ?_
      refine AllReadyH.cons (o := ⟨some 22, _, _, _, _, _⟩) rfl (fun K hK => ?_) ?_
      · go_simp
        obtain ⟨s0, s1, s2, s3⟩ := hHeld
        refine (line_any _).mono ?_
        rintro e_ q2 ⟨a2, rfl, ht_, hcj_, hb_⟩
        have HCJ2 := Lib.hid hcj_
        have HT2 := Lib.hid (ht_)
        go_wp2_with fail
        refine hK.out _ _ ?_ (fun hHeld => ?_)
        · exact ⟨s0.under hb_ s0.lt, s1.under hb_, s2.trans (hb_.mono s2.size), (let ⟨o_, h_, e_⟩ := s3; ⟨o_, h_.under hb_ h_.lt, e_⟩)⟩
        clear hK K s0 s1 s2 s3
        try simp only [Act.put, List.setIfInBounds_toArray, List.set_cons_zero, List.set_cons_succ]
        refine wpAnyH_ready (rs := [2]) (by kernel_rfl) (by simp) ?_
        refine AllReadyH.cons (o := ⟨some 24, _, _, _, _, _⟩) rfl (fun K hK => ?_) ?_
        · go_simp
          obtain ⟨s0, s1, s2, s3⟩ := hHeld
          refine (olc_set lineT a2 [⟨1, 5, 1⟩] 2 X1 1 x1 _ 2 6 HT2.out line_light HCJ2.out s1.1 s1.2.1 (by omega)).mono ?_
          rw [a16_2]
          rintro e_ q3 ⟨X2, k2, x2, rfl, hl_, hb_⟩
          obtain rfl : 0 = k2 := hl_.1.1
          unfold zeroI
          dsimp only
          have HT2 := Lib.hid (HT2.out.under hb_)
          go_wp2_with fail
          refine hK.out _ _ ?_ (fun hHeld => ?_)
          · exact ⟨s0.under hb_ s0.lt, s1.under hb_, s2.trans (hb_.mono s2.size), (let ⟨o_, h_, e_⟩ := s3; ⟨o_, h_.under hb_ h_.lt, e_⟩)⟩
          clear hK K s0 s1 s2 s3
          try simp only [Act.put, List.setIfInBounds_toArray, List.set_cons_zero, List.set_cons_succ]
          refine wpAnyH_take (i := 3) (oi := ⟨some 21, _, _, _, _, _⟩) (v := ?_) rfl (by kernel_rfl) (by kernel_rfl) (by kernel_rfl) (fun _ _ _ h => h) (Or.inl ⟨by rfl, ?_⟩) (by assumption) ?_
          rotate_left
          · intro w_ hSw; (try dsimp only at hSw); go_simp <;> with_reducible rfl
          simp only [Act.put, List.setIfInBounds_toArray, List.set_cons_zero, List.set_cons_succ]
          refine wpAnyH_take (i := 4) (oi := ⟨some 25, _, _, _, _, _⟩) (v := ?_) rfl (by kernel_rfl) (by kernel_rfl) (by kernel_rfl) (fun _ _ _ h => h) (Or.inl ⟨by rfl, ?_⟩) (by assumption) ?_
          rotate_left
          · intro w_ hSw; (try dsimp only at hSw); go_simp <;> with_reducible rfl
          simp only [Act.put, List.setIfInBounds_toArray, List.set_cons_zero, List.set_cons_succ]
          refine wpAnyH_take (i := 5) (oi := ⟨some 26, _, _, _, _, _⟩) (v := ?_) rfl (by kernel_rfl) (by kernel_rfl) (by kernel_rfl) (fun _ _ _ h => h) (Or.inl ⟨by rfl, ?_⟩) (by assumption) ?_
          rotate_left
          · intro w_ hSw; (try dsimp only at hSw); go_simp <;> with_reducible rfl
          simp only [Act.put, List.setIfInBounds_toArray, List.set_cons_zero, List.set_cons_succ]
          refine wpAnyH_take (i := 6) (oi := ⟨some 27, _, _, _, _, _⟩) (v := ?_) rfl (by kernel_rfl) (by kernel_rfl) (by kernel_rfl) (fun _ _ _ h => h) (Or.inl ⟨by rfl, ?_⟩) (by assumption) ?_
          rotate_left
          · intro w_ hSw; (try dsimp only at hSw); go_simp <;> with_reducible rfl
          simp only [Act.put, List.setIfInBounds_toArray, List.set_cons_zero, List.set_cons_succ]
          refine wpAnyH_ready (rs := [8]) (by kernel_rfl) (by simp) ?_
          refine AllReadyH.cons (o := ⟨none, _, _, _, _, _⟩) rfl (fun K hK => ?_) ?_
          · rw [if_pos (by rfl)]
            obtain ⟨s0, s1, s2, s3⟩ := hHeld
            obtain ⟨o_, h_, e_⟩ := s3
            refine wp_store_row 34 _ _ rfl (ga) #[.slice X2 0 x2, .int .i64 0] (by rfl) (by rfl) 34 o_ h_.raw11 (by kernel_rfl) e_ (by kernel_rfl) ?_
            refine hK.out _ _ ?_ (fun hHeld => ?_)
            · exact ⟨has_rowo11 s0 (by omega) _, s1.row h_ (by decide) _, below_row s2 (by omega) _, ⟨_, has_row11 h_ _, rfl⟩⟩
            refine wpAnyH_more11 (T := (fun W_ => (Has W_ (g1) 34 #[.slice X1 1 x1, .int .i64 2]) ∧ (LkT W_ X1 1 x1 ([⟨1, 5, 1⟩])) ∧ (Below w.heap.size w W_) ∧ (∃ o_ : Array Value, Has W_ (ga) 34 o_ ∧ o_.size = 2) ∧ (Has W_ (ga) 34 #[.slice X2 0 x2, .int .i64 0]))) (fun _ ⟨s0, s1, s2, s3, s4⟩ => ⟨s0, s1, s2, s3⟩) ?_
            have hHeld2 : (fun W_ => (Has W_ (g1) 34 #[.slice X1 1 x1, .int .i64 2]) ∧ (LkT W_ X1 1 x1 ([⟨1, 5, 1⟩])) ∧ (Below w.heap.size w W_) ∧ (∃ o_ : Array Value, Has W_ (ga) 34 o_ ∧ o_.size = 2) ∧ (Has W_ (ga) 34 #[.slice X2 0 x2, .int .i64 0])) _ := ⟨has_rowo11 s0 (by omega) _, s1.row h_ (by decide) _, below_row s2 (by omega) _, ⟨_, has_row11 h_ _, rfl⟩, has_row11 h_ _⟩
            clear hHeld
            have hHeld := hHeld2
            clear hHeld2
            clear hK K h_ e_ s0 s1 s2
            try simp only [Act.put]
            refine wpAnyH_take (i := 9) (oi := ⟨some 5, _, _, _, _, _⟩) (v := ?_) rfl (by kernel_rfl) (by kernel_rfl) (by kernel_rfl) (fun _ _ _ h => h) (Or.inl ⟨by rfl, ?_⟩) (by assumption) ?_
            rotate_left
            · intro w_ hSw; (try dsimp only at hSw); go_simp <;> with_reducible rfl
            simp only [Act.put, List.setIfInBounds_toArray, List.set_cons_zero, List.set_cons_succ]
            refine wpAnyH_take (i := 10) (oi := ⟨some 6, _, _, _, _, _⟩) (v := ?_) rfl (by kernel_rfl) (by kernel_rfl) (by kernel_rfl) (fun _ _ _ h => h) (Or.inl ⟨by rfl, ?_⟩) (by assumption) ?_
            rotate_left
            · intro w_ hSw; (try dsimp only at hSw); go_simp <;> with_reducible rfl
            simp only [Act.put, List.setIfInBounds_toArray, List.set_cons_zero, List.set_cons_succ]
            refine wpAnyH_done (by kernel_rfl) ?_ _
            go_wp2_with fail
            go_meet
            exact ⟨rfl, hHeld.1, hHeld.2.1, hHeld.2.2.1⟩
          exact AllReadyH.nil
        exact AllReadyH.nil
      exact AllReadyH.nil
    exact AllReadyH.nil
  case rest =>
    obtain ⟨rfl, hx_, hk_, hb_⟩ := hcut
    have HX1 := Lib.hid hx_; have HK1 := Lib.hid hk_; have HB := Lib.hid hb_
    clear hx_ hk_ hb_
    obtain ⟨u2, hu2⟩ : ∃ u2, u2 = wc := ⟨_, rfl⟩
    subst hu2
    have HG := Lib.hid (show Has u2.drew g1 34 #[.slice X1 1 x1, .int .i64 2] from HX1.out.draw)
    go_upto_region 3 with fail
    go_cut [7, 8] (fun s7 s8 wx => s7 = .int .i64 2 ∧ s8 = .int .i64 0 ∧ ∃ X3 x3, Has wx g1 34 #[.slice X3 2 x3, .int .i64 3] ∧ LkT wx X3 2 x3 [⟨1, 5, 1⟩, ⟨2, 5, 2⟩] ∧ Below w.heap.size w wx)
    case first =>
      have hg1w : w.heap.size ≤ g1 := HGW.out
      refine wp_region_held_drew (S := (fun W_ => (∃ o_ : Array Value, Has W_ (g1) 34 o_ ∧ o_.size = 2) ∧ (LkT W_ X1 1 x1 ([⟨1, 5, 1⟩])) ∧ (Below w.heap.size w W_))) (by kernel_rfl) ?_ (fun hHeld => ?_)
      · exact ⟨⟨_, HX1.out.draw, rfl⟩, HK1.out.under (below_dr11 (Below.refl _ _)), below_dr11 HB.out⟩
      refine wpAnyH_ready (rs := [0, 1]) (by kernel_rfl) (by simp) ?_
      refine AllReadyH.cons (o := ⟨some 29, _, _, _, _, _⟩) rfl (fun K hK => ?_) ?_
      · go_simp
        obtain ⟨s0, s1, s2⟩ := hHeld
        refine (line_any _).mono ?_
        rintro e_ q3 ⟨a3, rfl, ht_, hcj_, hb_⟩
        have HCJ3 := Lib.hid hcj_
        have HG := Lib.hid (HG.out.under hb_ HG.out.lt)
        have HT3 := Lib.hid (ht_)
        go_wp2_with fail
        refine hK.out _ _ ?_ (fun hHeld => ?_)
        · exact ⟨(let ⟨o_, h_, e_⟩ := s0; ⟨o_, h_.under hb_ h_.lt, e_⟩), s1.under hb_, s2.trans (hb_.mono s2.size)⟩
        clear hK K s0 s1 s2
        try simp only [Act.put, List.setIfInBounds_toArray, List.set_cons_zero, List.set_cons_succ]
        refine wpAnyH_ready (rs := [1]) (by kernel_rfl) (by simp) ?_
        refine AllReadyH.cons (o := ⟨some 30, _, _, _, _, _⟩) rfl (fun K hK => ?_) ?_
        · rw [if_pos (by rfl)]
          obtain ⟨s0, s1, s2⟩ := hHeld
          refine wp_load_row 34 _ rfl (g1) (by rfl) 34 #[.slice X1 1 x1, .int .i64 2] (0, 0) _ (HG.out).raw11 Try.underlying34 rfl (by kernel_rfl) ?_
          refine hK.out _ _ ?_ (fun hHeld => ?_)
          · exact ⟨s0, s1, s2⟩
          clear hK K s0 s1 s2
          try simp only [Act.put, List.setIfInBounds_toArray, List.set_cons_zero, List.set_cons_succ]
          refine wpAnyH_ready (rs := [2]) (by kernel_rfl) (by simp) ?_
          refine AllReadyH.cons (o := ⟨some 31, _, _, _, _, _⟩) rfl (fun K hK => ?_) ?_
          · go_simp
            obtain ⟨s0, s1, s2⟩ := hHeld
            refine (olc_set lineT a3 [⟨1, 5, 1⟩] 2 X1 1 x1 _ 2 5 HT3.out line_light HCJ3.out s1.1 s1.2.1 (by omega)).mono ?_
            rw [a16_3]
            rintro e_ q4 ⟨X3, k3, x3, rfl, hl_, hb_⟩
            obtain rfl : 2 = k3 := hl_.1.1
            dsimp only
            have HG := Lib.hid (HG.out.under hb_ HG.out.lt)
            have HT3 := Lib.hid (HT3.out.under hb_)
            have HN := Lib.hid (hl_)
            go_wp2_with fail
            refine hK.out _ _ ?_ (fun hHeld => ?_)
            · exact ⟨(let ⟨o_, h_, e_⟩ := s0; ⟨o_, h_.under hb_ h_.lt, e_⟩), s1.under hb_, s2.trans (hb_.mono s2.size)⟩
            clear hK K s0 s1 s2
            try simp only [Act.put, List.setIfInBounds_toArray, List.set_cons_zero, List.set_cons_succ]
            refine wpAnyH_take (i := 3) (oi := ⟨some 28, _, _, _, _, _⟩) (v := ?_) rfl (by kernel_rfl) (by kernel_rfl) (by kernel_rfl) (fun _ _ _ h => h) (Or.inl ⟨by rfl, ?_⟩) (by assumption) ?_
            rotate_left
            · intro w_ hSw; (try dsimp only at hSw); go_simp <;> with_reducible rfl
            simp only [Act.put, List.setIfInBounds_toArray, List.set_cons_zero, List.set_cons_succ]
            refine wpAnyH_take (i := 4) (oi := ⟨some 32, _, _, _, _, _⟩) (v := ?_) rfl (by kernel_rfl) (by kernel_rfl) (by kernel_rfl) (fun _ _ _ h => h) (Or.inl ⟨by rfl, ?_⟩) (by assumption) ?_
            rotate_left
            · intro w_ hSw; (try dsimp only at hSw); go_simp <;> with_reducible rfl
            simp only [Act.put, List.setIfInBounds_toArray, List.set_cons_zero, List.set_cons_succ]
            refine wpAnyH_take (i := 5) (oi := ⟨some 33, _, _, _, _, _⟩) (v := ?_) rfl (by kernel_rfl) (by kernel_rfl) (by kernel_rfl) (fun _ _ _ h => h) (Or.inl ⟨by rfl, ?_⟩) (by assumption) ?_
            rotate_left
            · intro w_ hSw; (try dsimp only at hSw); go_simp <;> with_reducible rfl
            simp only [Act.put, List.setIfInBounds_toArray, List.set_cons_zero, List.set_cons_succ]
            refine wpAnyH_take (i := 6) (oi := ⟨some 34, _, _, _, _, _⟩) (v := ?_) rfl (by kernel_rfl) (by kernel_rfl) (by kernel_rfl) (fun _ _ _ h => h) (Or.inl ⟨by rfl, ?_⟩) (by assumption) ?_
            rotate_left
            · intro w_ hSw; (try dsimp only at hSw); go_simp <;> with_reducible rfl
            simp only [Act.put, List.setIfInBounds_toArray, List.set_cons_zero, List.set_cons_succ]
            refine wpAnyH_ready (rs := [7]) (by kernel_rfl) (by simp) ?_
            refine AllReadyH.cons (o := ⟨none, _, _, _, _, _⟩) rfl (fun K hK => ?_) ?_
            · rw [if_pos (by rfl)]
              obtain ⟨s0, s1, s2⟩ := hHeld
              obtain ⟨o_, h_, e_⟩ := s0
              refine wp_store_row 34 _ _ rfl (g1) #[.slice X3 2 x3, .int .i64 3] (by rfl) (by rfl) 34 o_ h_.raw11 (by kernel_rfl) e_ (by kernel_rfl) ?_
              have HN := Lib.hid (HN.out.row h_ (by decide) #[.slice X3 2 x3, .int .i64 3])
              refine hK.out _ _ ?_ (fun hHeld => ?_)
              · exact ⟨⟨_, has_row11 h_ _, rfl⟩, s1.row h_ (by decide) _, below_row s2 (by omega) _⟩
              refine wpAnyH_more11 (T := (fun W_ => (∃ o_ : Array Value, Has W_ (g1) 34 o_ ∧ o_.size = 2) ∧ (LkT W_ X1 1 x1 ([⟨1, 5, 1⟩])) ∧ (Below w.heap.size w W_) ∧ (Has W_ (g1) 34 #[.slice X3 2 x3, .int .i64 3]))) (fun _ ⟨s0, s1, s2, s3⟩ => ⟨s0, s1, s2⟩) ?_
              have hHeld2 : (fun W_ => (∃ o_ : Array Value, Has W_ (g1) 34 o_ ∧ o_.size = 2) ∧ (LkT W_ X1 1 x1 ([⟨1, 5, 1⟩])) ∧ (Below w.heap.size w W_) ∧ (Has W_ (g1) 34 #[.slice X3 2 x3, .int .i64 3])) _ := ⟨⟨_, has_row11 h_ _, rfl⟩, s1.row h_ (by decide) _, below_row s2 (by omega) _, has_row11 h_ _⟩
              clear hHeld
              have hHeld := hHeld2
              clear hHeld2
              clear hK K h_ e_ s1 s2
              try simp only [Act.put]
              refine wpAnyH_take (i := 8) (oi := ⟨some 7, _, _, _, _, _⟩) (v := ?_) rfl (by kernel_rfl) (by kernel_rfl) (by kernel_rfl) (fun _ _ _ h => h) (Or.inl ⟨by rfl, ?_⟩) (by assumption) ?_
              rotate_left
              · intro w_ hSw; (try dsimp only at hSw); go_simp <;> with_reducible rfl
              simp only [Act.put, List.setIfInBounds_toArray, List.set_cons_zero, List.set_cons_succ]
              refine wpAnyH_take (i := 9) (oi := ⟨some 8, _, _, _, _, _⟩) (v := ?_) rfl (by kernel_rfl) (by kernel_rfl) (by kernel_rfl) (fun _ _ _ h => h) (Or.inl ⟨by rfl, ?_⟩) (by assumption) ?_
              rotate_left
              · intro w_ hSw; (try dsimp only at hSw); go_simp <;> with_reducible rfl
              simp only [Act.put, List.setIfInBounds_toArray, List.set_cons_zero, List.set_cons_succ]
              refine wpAnyH_done (by kernel_rfl) ?_ _
              go_wp2_with fail
              go_meet
              exact ⟨rfl, rfl, _, _, hHeld.2.2.2, HN.out, hHeld.2.2.1⟩
            exact AllReadyH.nil
          exact AllReadyH.nil
        exact AllReadyH.nil
      refine AllReadyH.cons (o := ⟨some 30, _, _, _, _, _⟩) rfl (fun K hK => ?_) ?_
      · rw [if_pos (by rfl)]
        obtain ⟨s0, s1, s2⟩ := hHeld
        refine wp_load_row 34 _ rfl (g1) (by rfl) 34 #[.slice X1 1 x1, .int .i64 2] (0, 0) _ (HG.out).raw11 Try.underlying34 rfl (by kernel_rfl) ?_
        refine hK.out _ _ ?_ (fun hHeld => ?_)
        · exact ⟨s0, s1, s2⟩
        clear hK K s0 s1 s2
        try simp only [Act.put, List.setIfInBounds_toArray, List.set_cons_zero, List.set_cons_succ]
        refine wpAnyH_ready (rs := [0]) (by kernel_rfl) (by simp) ?_
        refine AllReadyH.cons (o := ⟨some 29, _, _, _, _, _⟩) rfl (fun K hK => ?_) ?_
        · go_simp
          obtain ⟨s0, s1, s2⟩ := hHeld
          refine (line_any _).mono ?_
          rintro e_ q3 ⟨a3, rfl, ht_, hcj_, hb_⟩
          have HCJ3 := Lib.hid hcj_
          have HG := Lib.hid (HG.out.under hb_ HG.out.lt)
          have HT3 := Lib.hid (ht_)
          go_wp2_with fail
          refine hK.out _ _ ?_ (fun hHeld => ?_)
          · exact ⟨(let ⟨o_, h_, e_⟩ := s0; ⟨o_, h_.under hb_ h_.lt, e_⟩), s1.under hb_, s2.trans (hb_.mono s2.size)⟩
          clear hK K s0 s1 s2
          try simp only [Act.put, List.setIfInBounds_toArray, List.set_cons_zero, List.set_cons_succ]
          refine wpAnyH_ready (rs := [2]) (by kernel_rfl) (by simp) ?_
          refine AllReadyH.cons (o := ⟨some 31, _, _, _, _, _⟩) rfl (fun K hK => ?_) ?_
          · go_simp
            obtain ⟨s0, s1, s2⟩ := hHeld
            refine (olc_set lineT a3 [⟨1, 5, 1⟩] 2 X1 1 x1 _ 2 5 HT3.out line_light HCJ3.out s1.1 s1.2.1 (by omega)).mono ?_
            rw [a16_3]
            rintro e_ q4 ⟨X3, k3, x3, rfl, hl_, hb_⟩
            obtain rfl : 2 = k3 := hl_.1.1
            dsimp only
            have HG := Lib.hid (HG.out.under hb_ HG.out.lt)
            have HT3 := Lib.hid (HT3.out.under hb_)
            have HN := Lib.hid (hl_)
            go_wp2_with fail
            refine hK.out _ _ ?_ (fun hHeld => ?_)
            · exact ⟨(let ⟨o_, h_, e_⟩ := s0; ⟨o_, h_.under hb_ h_.lt, e_⟩), s1.under hb_, s2.trans (hb_.mono s2.size)⟩
            clear hK K s0 s1 s2
            try simp only [Act.put, List.setIfInBounds_toArray, List.set_cons_zero, List.set_cons_succ]
            refine wpAnyH_take (i := 3) (oi := ⟨some 28, _, _, _, _, _⟩) (v := ?_) rfl (by kernel_rfl) (by kernel_rfl) (by kernel_rfl) (fun _ _ _ h => h) (Or.inl ⟨by rfl, ?_⟩) (by assumption) ?_
            rotate_left
            · intro w_ hSw; (try dsimp only at hSw); go_simp <;> with_reducible rfl
            simp only [Act.put, List.setIfInBounds_toArray, List.set_cons_zero, List.set_cons_succ]
            refine wpAnyH_take (i := 4) (oi := ⟨some 32, _, _, _, _, _⟩) (v := ?_) rfl (by kernel_rfl) (by kernel_rfl) (by kernel_rfl) (fun _ _ _ h => h) (Or.inl ⟨by rfl, ?_⟩) (by assumption) ?_
            rotate_left
            · intro w_ hSw; (try dsimp only at hSw); go_simp <;> with_reducible rfl
            simp only [Act.put, List.setIfInBounds_toArray, List.set_cons_zero, List.set_cons_succ]
            refine wpAnyH_take (i := 5) (oi := ⟨some 33, _, _, _, _, _⟩) (v := ?_) rfl (by kernel_rfl) (by kernel_rfl) (by kernel_rfl) (fun _ _ _ h => h) (Or.inl ⟨by rfl, ?_⟩) (by assumption) ?_
            rotate_left
            · intro w_ hSw; (try dsimp only at hSw); go_simp <;> with_reducible rfl
            simp only [Act.put, List.setIfInBounds_toArray, List.set_cons_zero, List.set_cons_succ]
            refine wpAnyH_take (i := 6) (oi := ⟨some 34, _, _, _, _, _⟩) (v := ?_) rfl (by kernel_rfl) (by kernel_rfl) (by kernel_rfl) (fun _ _ _ h => h) (Or.inl ⟨by rfl, ?_⟩) (by assumption) ?_
            rotate_left
            · intro w_ hSw; (try dsimp only at hSw); go_simp <;> with_reducible rfl
            simp only [Act.put, List.setIfInBounds_toArray, List.set_cons_zero, List.set_cons_succ]
            refine wpAnyH_ready (rs := [7]) (by kernel_rfl) (by simp) ?_
            refine AllReadyH.cons (o := ⟨none, _, _, _, _, _⟩) rfl (fun K hK => ?_) ?_
            · rw [if_pos (by rfl)]
              obtain ⟨s0, s1, s2⟩ := hHeld
              obtain ⟨o_, h_, e_⟩ := s0
              refine wp_store_row 34 _ _ rfl (g1) #[.slice X3 2 x3, .int .i64 3] (by rfl) (by rfl) 34 o_ h_.raw11 (by kernel_rfl) e_ (by kernel_rfl) ?_
              have HN := Lib.hid (HN.out.row h_ (by decide) #[.slice X3 2 x3, .int .i64 3])
              refine hK.out _ _ ?_ (fun hHeld => ?_)
              · exact ⟨⟨_, has_row11 h_ _, rfl⟩, s1.row h_ (by decide) _, below_row s2 (by omega) _⟩
              refine wpAnyH_more11 (T := (fun W_ => (∃ o_ : Array Value, Has W_ (g1) 34 o_ ∧ o_.size = 2) ∧ (LkT W_ X1 1 x1 ([⟨1, 5, 1⟩])) ∧ (Below w.heap.size w W_) ∧ (Has W_ (g1) 34 #[.slice X3 2 x3, .int .i64 3]))) (fun _ ⟨s0, s1, s2, s3⟩ => ⟨s0, s1, s2⟩) ?_
              have hHeld2 : (fun W_ => (∃ o_ : Array Value, Has W_ (g1) 34 o_ ∧ o_.size = 2) ∧ (LkT W_ X1 1 x1 ([⟨1, 5, 1⟩])) ∧ (Below w.heap.size w W_) ∧ (Has W_ (g1) 34 #[.slice X3 2 x3, .int .i64 3])) _ := ⟨⟨_, has_row11 h_ _, rfl⟩, s1.row h_ (by decide) _, below_row s2 (by omega) _, has_row11 h_ _⟩
              clear hHeld
              have hHeld := hHeld2
              clear hHeld2
              clear hK K h_ e_ s1 s2
              try simp only [Act.put]
              refine wpAnyH_take (i := 8) (oi := ⟨some 7, _, _, _, _, _⟩) (v := ?_) rfl (by kernel_rfl) (by kernel_rfl) (by kernel_rfl) (fun _ _ _ h => h) (Or.inl ⟨by rfl, ?_⟩) (by assumption) ?_
              rotate_left
              · intro w_ hSw; (try dsimp only at hSw); go_simp <;> with_reducible rfl
              simp only [Act.put, List.setIfInBounds_toArray, List.set_cons_zero, List.set_cons_succ]
              refine wpAnyH_take (i := 9) (oi := ⟨some 8, _, _, _, _, _⟩) (v := ?_) rfl (by kernel_rfl) (by kernel_rfl) (by kernel_rfl) (fun _ _ _ h => h) (Or.inl ⟨by rfl, ?_⟩) (by assumption) ?_
              rotate_left
              · intro w_ hSw; (try dsimp only at hSw); go_simp <;> with_reducible rfl
              simp only [Act.put, List.setIfInBounds_toArray, List.set_cons_zero, List.set_cons_succ]
              refine wpAnyH_done (by kernel_rfl) ?_ _
              go_wp2_with fail
              go_meet
              exact ⟨rfl, rfl, _, _, hHeld.2.2.2, HN.out, hHeld.2.2.1⟩
            exact AllReadyH.nil
          exact AllReadyH.nil
        exact AllReadyH.nil
      exact AllReadyH.nil
    case rest =>
      obtain ⟨rfl, rfl, X3, x3, hx_, hk_, hb_⟩ := hcut
      have HX1 := Lib.hid hx_; have HK1 := Lib.hid hk_; have HB := Lib.hid hb_
      clear hx_ hk_ hb_
      obtain ⟨u3, hu3⟩ : ∃ u3, u3 = wc := ⟨_, rfl⟩
      subst hu3
      go_upto_region 4 with fail
      go_cut [9, 10] (fun s9 s10 wx => s10 = .int .i64 0 ∧ ∃ gy X4 x4, s9 = .pointer (some ⟨gy, 0, none⟩) ∧ Has wx gy 34 #[.slice X4 1 x4, .int .i64 3] ∧ LkT wx X4 1 x4 [⟨2, 5, 2⟩] ∧ Has wx g1 34 #[.slice X3 2 x3, .int .i64 3] ∧ LkT wx X3 2 x3 [⟨1, 5, 1⟩, ⟨2, 5, 2⟩] ∧ Below w.heap.size w wx)
      case first =>
        skip
        refine wp_region_held_drew (S := (fun W_ => (Has W_ (g1) 34 #[.slice X3 2 x3, .int .i64 3]) ∧ (LkT W_ X3 2 x3 ([⟨1, 5, 1⟩, ⟨2, 5, 2⟩])) ∧ (Below w.heap.size w W_))) (by kernel_rfl) ?_ (fun hHeld => ?_)
        · exact ⟨HX1.out.draw, HK1.out.under (below_dr11 (Below.refl _ _)), below_dr11 HB.out⟩
        refine wpAnyH_take (i := 1) (oi := ⟨some 37, _, _, _, _, _⟩) (v := .agg #[.slice X3 2 x3, .int .i64 3]) rfl (by kernel_rfl) (by kernel_rfl) (by kernel_rfl) (fun _ _ _ h => h) (yields_load_row11 34 _ rfl (g1) rfl 34 #[.slice X3 2 x3, .int .i64 3] _ (fun _ ⟨h_, _, _⟩ => h_) Try.underlying34 rfl (by kernel_rfl) (by rfl)) (by assumption) ?_
        simp only [Act.put, List.setIfInBounds_toArray, List.set_cons_zero, List.set_cons_succ]
        refine wpAnyH_ready (rs := [0, 6]) (by kernel_rfl) (by simp) ?_
        refine AllReadyH.cons (o := ⟨some 36, _, _, _, _, _⟩) rfl (fun K hK => ?_) ?_
        · go_simp
          obtain ⟨s0, s1, s2⟩ := hHeld
          refine (line_any _).mono ?_
          rintro e_ q4 ⟨a4, rfl, ht_, hcj_, hb_⟩
          have HCJ4 := Lib.hid hcj_
          have HT4 := Lib.hid (ht_)
          go_wp2_with fail
          refine hK.out _ _ ?_ (fun hHeld => ?_)
          · exact ⟨s0.under hb_ s0.lt, s1.under hb_, s2.trans (hb_.mono s2.size)⟩
          clear hK K s0 s1 s2
          try simp only [Act.put, List.setIfInBounds_toArray, List.set_cons_zero, List.set_cons_succ]
          refine wpAnyH_ready (rs := [2, 6]) (by kernel_rfl) (by simp) ?_
          refine AllReadyH.cons (o := ⟨some 38, _, _, _, _, _⟩) rfl (fun K hK => ?_) ?_
          · go_simp
            obtain ⟨s0, s1, s2⟩ := hHeld
            refine (olc_free lineT a4 [⟨1, 5, 1⟩, ⟨2, 5, 2⟩] 3 X3 2 x3 _ 1 HT4.out line_light HCJ4.out s1.1 s1.2.1 (by omega)).mono ?_
            rw [a16_4]
            rintro e_ q5 ⟨X4, k4, x4, rfl, hl_, hb_⟩
            obtain rfl : 1 = k4 := hl_.1.1
            dsimp only
            have HT4 := Lib.hid (HT4.out.under hb_)
            have HN := Lib.hid (hl_)
            go_wp2_with fail
            refine hK.out _ _ ?_ (fun hHeld => ?_)
            · exact ⟨s0.under hb_ s0.lt, s1.under hb_, s2.trans (hb_.mono s2.size)⟩
            clear hK K s0 s1 s2
            try simp only [Act.put, List.setIfInBounds_toArray, List.set_cons_zero, List.set_cons_succ]
            refine wpAnyH_take (i := 3) (oi := ⟨some 35, _, _, _, _, _⟩) (v := ?_) rfl (by kernel_rfl) (by kernel_rfl) (by kernel_rfl) (fun _ _ _ h => h) (Or.inl ⟨by rfl, ?_⟩) (by assumption) ?_
            rotate_left
            · intro w_ hSw; (try dsimp only at hSw); go_simp <;> with_reducible rfl
            simp only [Act.put, List.setIfInBounds_toArray, List.set_cons_zero, List.set_cons_succ]
            refine wpAnyH_take (i := 4) (oi := ⟨some 39, _, _, _, _, _⟩) (v := ?_) rfl (by kernel_rfl) (by kernel_rfl) (by kernel_rfl) (fun _ _ _ h => h) (Or.inl ⟨by rfl, ?_⟩) (by assumption) ?_
            rotate_left
            · intro w_ hSw; (try dsimp only at hSw); go_simp <;> with_reducible rfl
            simp only [Act.put, List.setIfInBounds_toArray, List.set_cons_zero, List.set_cons_succ]
            refine wpAnyH_take (i := 5) (oi := ⟨some 40, _, _, _, _, _⟩) (v := ?_) rfl (by kernel_rfl) (by kernel_rfl) (by kernel_rfl) (fun _ _ _ h => h) (Or.inl ⟨by rfl, ?_⟩) (by assumption) ?_
            rotate_left
            · intro w_ hSw; (try dsimp only at hSw); go_simp <;> with_reducible rfl
            simp only [Act.put, List.setIfInBounds_toArray, List.set_cons_zero, List.set_cons_succ]
            refine wpAnyH_ready (rs := [6]) (by kernel_rfl) (by simp) ?_
            refine AllReadyH.cons (o := ⟨some 9, _, _, _, _, _⟩) rfl (fun K hK => ?_) ?_
            · go_simp
              obtain ⟨s0, s1, s2⟩ := hHeld
              obtain ⟨gy, hgy⟩ : ∃ gy, q5.heap.size = gy := ⟨_, rfl⟩
              have p0_gy : g1 < gy := by rw [← hgy]; exact s0.lt
              have p2_gy : w.heap.size ≤ gy := by rw [← hgy]; exact s2.size
              rw [hgy]
              refine hK.out _ _ ?_ (fun hHeld => ?_)
              · exact ⟨s0.beside _, s1.under ((Below.refl _ _).alloc (Nat.le_refl _) _), below_al11 s2 _⟩
              have HT4 := Lib.hid (HT4.out.under ((Below.refl _ _).alloc (Nat.le_refl _) (.cells #[.slice none 0 0, .int .i64 0] 34)))
              have HN := Lib.hid (HN.out.under ((Below.refl _ _).alloc (Nat.le_refl _) (.cells #[.slice none 0 0, .int .i64 0] 34)))
              refine wpAnyH_more11 (T := (fun W_ => (Has W_ (g1) 34 #[.slice X3 2 x3, .int .i64 3]) ∧ (LkT W_ X3 2 x3 ([⟨1, 5, 1⟩, ⟨2, 5, 2⟩])) ∧ (Below w.heap.size w W_) ∧ (∃ o_ : Array Value, Has W_ (gy) 34 o_ ∧ o_.size = 2))) (fun _ ⟨s0, s1, s2, s3⟩ => ⟨s0, s1, s2⟩) ?_
              have hHeld2 : (fun W_ => (Has W_ (g1) 34 #[.slice X3 2 x3, .int .i64 3]) ∧ (LkT W_ X3 2 x3 ([⟨1, 5, 1⟩, ⟨2, 5, 2⟩])) ∧ (Below w.heap.size w W_) ∧ (∃ o_ : Array Value, Has W_ (gy) 34 o_ ∧ o_.size = 2)) _ := ⟨s0.beside _, s1.under ((Below.refl _ _).alloc (Nat.le_refl _) _), below_al11 s2 _, ⟨#[.slice none 0 0, .int .i64 0], (by rw [← hgy]; exact Has.made _ _ _), rfl⟩⟩
              clear hHeld
              have hHeld := hHeld2
              clear hHeld2
              clear hK K hgy s0 s1 s2
              try simp only [Act.put, List.setIfInBounds_toArray, List.set_cons_zero, List.set_cons_succ]
              refine wpAnyH_ready (rs := [7]) (by kernel_rfl) (by simp) ?_
              refine AllReadyH.cons (o := ⟨none, _, _, _, _, _⟩) rfl (fun K hK => ?_) ?_
              · rw [if_pos (by rfl)]
                obtain ⟨s0, s1, s2, s3⟩ := hHeld
                obtain ⟨o_, h_, e_⟩ := s3
                refine wp_store_row 34 _ _ rfl (gy) #[.slice X4 1 x4, .int .i64 3] (by rfl) (by rfl) 34 o_ h_.raw11 (by kernel_rfl) e_ (by kernel_rfl) ?_
                have HN := Lib.hid (HN.out.row h_ (by decide) #[.slice X4 1 x4, .int .i64 3])
                refine hK.out _ _ ?_ (fun hHeld => ?_)
                · exact ⟨has_rowo11 s0 (by omega) _, s1.row h_ (by decide) _, below_row s2 (by omega) _, ⟨_, has_row11 h_ _, rfl⟩⟩
                refine wpAnyH_more11 (T := (fun W_ => (Has W_ (g1) 34 #[.slice X3 2 x3, .int .i64 3]) ∧ (LkT W_ X3 2 x3 ([⟨1, 5, 1⟩, ⟨2, 5, 2⟩])) ∧ (Below w.heap.size w W_) ∧ (∃ o_ : Array Value, Has W_ (gy) 34 o_ ∧ o_.size = 2) ∧ (Has W_ (gy) 34 #[.slice X4 1 x4, .int .i64 3]))) (fun _ ⟨s0, s1, s2, s3, s4⟩ => ⟨s0, s1, s2, s3⟩) ?_
                have hHeld2 : (fun W_ => (Has W_ (g1) 34 #[.slice X3 2 x3, .int .i64 3]) ∧ (LkT W_ X3 2 x3 ([⟨1, 5, 1⟩, ⟨2, 5, 2⟩])) ∧ (Below w.heap.size w W_) ∧ (∃ o_ : Array Value, Has W_ (gy) 34 o_ ∧ o_.size = 2) ∧ (Has W_ (gy) 34 #[.slice X4 1 x4, .int .i64 3])) _ := ⟨has_rowo11 s0 (by omega) _, s1.row h_ (by decide) _, below_row s2 (by omega) _, ⟨_, has_row11 h_ _, rfl⟩, has_row11 h_ _⟩
                clear hHeld
                have hHeld := hHeld2
                clear hHeld2
                clear hK K h_ e_ s0 s1 s2
                try simp only [Act.put]
                refine wpAnyH_take (i := 8) (oi := ⟨some 10, _, _, _, _, _⟩) (v := ?_) rfl (by kernel_rfl) (by kernel_rfl) (by kernel_rfl) (fun _ _ _ h => h) (Or.inl ⟨by rfl, ?_⟩) (by assumption) ?_
                rotate_left
                · intro w_ hSw; (try dsimp only at hSw); go_simp <;> with_reducible rfl
                simp only [Act.put, List.setIfInBounds_toArray, List.set_cons_zero, List.set_cons_succ]
                refine wpAnyH_done (by kernel_rfl) ?_ _
                go_wp2_with fail
                go_meet
                exact ⟨rfl, _, _, _, rfl, hHeld.2.2.2.2, HN.out, hHeld.1, hHeld.2.1, hHeld.2.2.1⟩
              exact AllReadyH.nil
            exact AllReadyH.nil
          refine AllReadyH.cons (o := ⟨some 9, _, _, _, _, _⟩) rfl (fun K hK => ?_) ?_
          · go_simp
            obtain ⟨s0, s1, s2⟩ := hHeld
            obtain ⟨gy, hgy⟩ : ∃ gy, q4.heap.size = gy := ⟨_, rfl⟩
            have p0_gy : g1 < gy := by rw [← hgy]; exact s0.lt
            have p2_gy : w.heap.size ≤ gy := by rw [← hgy]; exact s2.size
            rw [hgy]
            refine hK.out _ _ ?_ (fun hHeld => ?_)
            · exact ⟨s0.beside _, s1.under ((Below.refl _ _).alloc (Nat.le_refl _) _), below_al11 s2 _⟩
            have HT4 := Lib.hid (HT4.out.under ((Below.refl _ _).alloc (Nat.le_refl _) (.cells #[.slice none 0 0, .int .i64 0] 34)))
            refine wpAnyH_more11 (T := (fun W_ => (Has W_ (g1) 34 #[.slice X3 2 x3, .int .i64 3]) ∧ (LkT W_ X3 2 x3 ([⟨1, 5, 1⟩, ⟨2, 5, 2⟩])) ∧ (Below w.heap.size w W_) ∧ (∃ o_ : Array Value, Has W_ (gy) 34 o_ ∧ o_.size = 2))) (fun _ ⟨s0, s1, s2, s3⟩ => ⟨s0, s1, s2⟩) ?_
            have hHeld2 : (fun W_ => (Has W_ (g1) 34 #[.slice X3 2 x3, .int .i64 3]) ∧ (LkT W_ X3 2 x3 ([⟨1, 5, 1⟩, ⟨2, 5, 2⟩])) ∧ (Below w.heap.size w W_) ∧ (∃ o_ : Array Value, Has W_ (gy) 34 o_ ∧ o_.size = 2)) _ := ⟨s0.beside _, s1.under ((Below.refl _ _).alloc (Nat.le_refl _) _), below_al11 s2 _, ⟨#[.slice none 0 0, .int .i64 0], (by rw [← hgy]; exact Has.made _ _ _), rfl⟩⟩
            clear hHeld
            have hHeld := hHeld2
            clear hHeld2
            clear hK K hgy s0 s1 s2
            try simp only [Act.put, List.setIfInBounds_toArray, List.set_cons_zero, List.set_cons_succ]
            refine wpAnyH_ready (rs := [2]) (by kernel_rfl) (by simp) ?_
            refine AllReadyH.cons (o := ⟨some 38, _, _, _, _, _⟩) rfl (fun K hK => ?_) ?_
            · go_simp
              obtain ⟨s0, s1, s2, s3⟩ := hHeld
              refine (olc_free lineT a4 [⟨1, 5, 1⟩, ⟨2, 5, 2⟩] 3 X3 2 x3 _ 1 HT4.out line_light HCJ4.out s1.1 s1.2.1 (by omega)).mono ?_
              rw [a16_4]
              rintro e_ q5 ⟨X4, k4, x4, rfl, hl_, hb_⟩
              obtain rfl : 1 = k4 := hl_.1.1
              dsimp only
              have HT4 := Lib.hid (HT4.out.under hb_)
              have HN := Lib.hid (hl_)
              go_wp2_with fail
              refine hK.out _ _ ?_ (fun hHeld => ?_)
              · exact ⟨s0.under hb_ s0.lt, s1.under hb_, s2.trans (hb_.mono s2.size), (let ⟨o_, h_, e_⟩ := s3; ⟨o_, h_.under hb_ h_.lt, e_⟩)⟩
              clear hK K s0 s1 s2 s3
              try simp only [Act.put, List.setIfInBounds_toArray, List.set_cons_zero, List.set_cons_succ]
              refine wpAnyH_take (i := 3) (oi := ⟨some 35, _, _, _, _, _⟩) (v := ?_) rfl (by kernel_rfl) (by kernel_rfl) (by kernel_rfl) (fun _ _ _ h => h) (Or.inl ⟨by rfl, ?_⟩) (by assumption) ?_
              rotate_left
              · intro w_ hSw; (try dsimp only at hSw); go_simp <;> with_reducible rfl
              simp only [Act.put, List.setIfInBounds_toArray, List.set_cons_zero, List.set_cons_succ]
              refine wpAnyH_take (i := 4) (oi := ⟨some 39, _, _, _, _, _⟩) (v := ?_) rfl (by kernel_rfl) (by kernel_rfl) (by kernel_rfl) (fun _ _ _ h => h) (Or.inl ⟨by rfl, ?_⟩) (by assumption) ?_
              rotate_left
              · intro w_ hSw; (try dsimp only at hSw); go_simp <;> with_reducible rfl
              simp only [Act.put, List.setIfInBounds_toArray, List.set_cons_zero, List.set_cons_succ]
              refine wpAnyH_take (i := 5) (oi := ⟨some 40, _, _, _, _, _⟩) (v := ?_) rfl (by kernel_rfl) (by kernel_rfl) (by kernel_rfl) (fun _ _ _ h => h) (Or.inl ⟨by rfl, ?_⟩) (by assumption) ?_
              rotate_left
              · intro w_ hSw; (try dsimp only at hSw); go_simp <;> with_reducible rfl
              simp only [Act.put, List.setIfInBounds_toArray, List.set_cons_zero, List.set_cons_succ]
              refine wpAnyH_ready (rs := [7]) (by kernel_rfl) (by simp) ?_
              refine AllReadyH.cons (o := ⟨none, _, _, _, _, _⟩) rfl (fun K hK => ?_) ?_
              · rw [if_pos (by rfl)]
                obtain ⟨s0, s1, s2, s3⟩ := hHeld
                obtain ⟨o_, h_, e_⟩ := s3
                refine wp_store_row 34 _ _ rfl (gy) #[.slice X4 1 x4, .int .i64 3] (by rfl) (by rfl) 34 o_ h_.raw11 (by kernel_rfl) e_ (by kernel_rfl) ?_
                have HN := Lib.hid (HN.out.row h_ (by decide) #[.slice X4 1 x4, .int .i64 3])
                refine hK.out _ _ ?_ (fun hHeld => ?_)
                · exact ⟨has_rowo11 s0 (by omega) _, s1.row h_ (by decide) _, below_row s2 (by omega) _, ⟨_, has_row11 h_ _, rfl⟩⟩
                refine wpAnyH_more11 (T := (fun W_ => (Has W_ (g1) 34 #[.slice X3 2 x3, .int .i64 3]) ∧ (LkT W_ X3 2 x3 ([⟨1, 5, 1⟩, ⟨2, 5, 2⟩])) ∧ (Below w.heap.size w W_) ∧ (∃ o_ : Array Value, Has W_ (gy) 34 o_ ∧ o_.size = 2) ∧ (Has W_ (gy) 34 #[.slice X4 1 x4, .int .i64 3]))) (fun _ ⟨s0, s1, s2, s3, s4⟩ => ⟨s0, s1, s2, s3⟩) ?_
                have hHeld2 : (fun W_ => (Has W_ (g1) 34 #[.slice X3 2 x3, .int .i64 3]) ∧ (LkT W_ X3 2 x3 ([⟨1, 5, 1⟩, ⟨2, 5, 2⟩])) ∧ (Below w.heap.size w W_) ∧ (∃ o_ : Array Value, Has W_ (gy) 34 o_ ∧ o_.size = 2) ∧ (Has W_ (gy) 34 #[.slice X4 1 x4, .int .i64 3])) _ := ⟨has_rowo11 s0 (by omega) _, s1.row h_ (by decide) _, below_row s2 (by omega) _, ⟨_, has_row11 h_ _, rfl⟩, has_row11 h_ _⟩
                clear hHeld
                have hHeld := hHeld2
                clear hHeld2
                clear hK K h_ e_ s0 s1 s2
                try simp only [Act.put]
                refine wpAnyH_take (i := 8) (oi := ⟨some 10, _, _, _, _, _⟩) (v := ?_) rfl (by kernel_rfl) (by kernel_rfl) (by kernel_rfl) (fun _ _ _ h => h) (Or.inl ⟨by rfl, ?_⟩) (by assumption) ?_
                rotate_left
                · intro w_ hSw; (try dsimp only at hSw); go_simp <;> with_reducible rfl
                simp only [Act.put, List.setIfInBounds_toArray, List.set_cons_zero, List.set_cons_succ]
                refine wpAnyH_done (by kernel_rfl) ?_ _
                go_wp2_with fail
                go_meet
                exact ⟨rfl, _, _, _, rfl, hHeld.2.2.2.2, HN.out, hHeld.1, hHeld.2.1, hHeld.2.2.1⟩
              exact AllReadyH.nil
            exact AllReadyH.nil
          exact AllReadyH.nil
        refine AllReadyH.cons (o := ⟨some 9, _, _, _, _, _⟩) rfl (fun K hK => ?_) ?_
        · go_simp
          obtain ⟨s0, s1, s2⟩ := hHeld
          obtain ⟨gy, hgy⟩ : ∃ gy, u3.heap.size = gy := ⟨_, rfl⟩
          have p0_gy : g1 < gy := by rw [← hgy]; exact s0.lt
          have p2_gy : w.heap.size ≤ gy := by rw [← hgy]; exact s2.size
          rw [hgy]
          refine hK.out _ _ ?_ (fun hHeld => ?_)
          · exact ⟨s0.beside _, s1.under ((Below.refl _ _).alloc (Nat.le_refl _) _), below_al11 s2 _⟩
          refine wpAnyH_more11 (T := (fun W_ => (Has W_ (g1) 34 #[.slice X3 2 x3, .int .i64 3]) ∧ (LkT W_ X3 2 x3 ([⟨1, 5, 1⟩, ⟨2, 5, 2⟩])) ∧ (Below w.heap.size w W_) ∧ (∃ o_ : Array Value, Has W_ (gy) 34 o_ ∧ o_.size = 2))) (fun _ ⟨s0, s1, s2, s3⟩ => ⟨s0, s1, s2⟩) ?_
          have hHeld2 : (fun W_ => (Has W_ (g1) 34 #[.slice X3 2 x3, .int .i64 3]) ∧ (LkT W_ X3 2 x3 ([⟨1, 5, 1⟩, ⟨2, 5, 2⟩])) ∧ (Below w.heap.size w W_) ∧ (∃ o_ : Array Value, Has W_ (gy) 34 o_ ∧ o_.size = 2)) _ := ⟨s0.beside _, s1.under ((Below.refl _ _).alloc (Nat.le_refl _) _), below_al11 s2 _, ⟨#[.slice none 0 0, .int .i64 0], (by rw [← hgy]; exact Has.made _ _ _), rfl⟩⟩
          clear hHeld
          have hHeld := hHeld2
          clear hHeld2
          clear hK K hgy s0 s1 s2
          try simp only [Act.put, List.setIfInBounds_toArray, List.set_cons_zero, List.set_cons_succ]
          refine wpAnyH_ready (rs := [0]) (by kernel_rfl) (by simp) ?_
          refine AllReadyH.cons (o := ⟨some 36, _, _, _, _, _⟩) rfl (fun K hK => ?_) ?_
          · go_simp
            obtain ⟨s0, s1, s2, s3⟩ := hHeld
            refine (line_any _).mono ?_
            rintro e_ q4 ⟨a4, rfl, ht_, hcj_, hb_⟩
            have HCJ4 := Lib.hid hcj_
            have HT4 := Lib.hid (ht_)
            go_wp2_with fail
            refine hK.out _ _ ?_ (fun hHeld => ?_)
            · exact ⟨s0.under hb_ s0.lt, s1.under hb_, s2.trans (hb_.mono s2.size), (let ⟨o_, h_, e_⟩ := s3; ⟨o_, h_.under hb_ h_.lt, e_⟩)⟩
            clear hK K s0 s1 s2 s3
            try simp only [Act.put, List.setIfInBounds_toArray, List.set_cons_zero, List.set_cons_succ]
            refine wpAnyH_ready (rs := [2]) (by kernel_rfl) (by simp) ?_
            refine AllReadyH.cons (o := ⟨some 38, _, _, _, _, _⟩) rfl (fun K hK => ?_) ?_
            · go_simp
              obtain ⟨s0, s1, s2, s3⟩ := hHeld
              refine (olc_free lineT a4 [⟨1, 5, 1⟩, ⟨2, 5, 2⟩] 3 X3 2 x3 _ 1 HT4.out line_light HCJ4.out s1.1 s1.2.1 (by omega)).mono ?_
              rw [a16_4]
              rintro e_ q5 ⟨X4, k4, x4, rfl, hl_, hb_⟩
              obtain rfl : 1 = k4 := hl_.1.1
              dsimp only
              have HT4 := Lib.hid (HT4.out.under hb_)
              have HN := Lib.hid (hl_)
              go_wp2_with fail
              refine hK.out _ _ ?_ (fun hHeld => ?_)
              · exact ⟨s0.under hb_ s0.lt, s1.under hb_, s2.trans (hb_.mono s2.size), (let ⟨o_, h_, e_⟩ := s3; ⟨o_, h_.under hb_ h_.lt, e_⟩)⟩
              clear hK K s0 s1 s2 s3
              try simp only [Act.put, List.setIfInBounds_toArray, List.set_cons_zero, List.set_cons_succ]
              refine wpAnyH_take (i := 3) (oi := ⟨some 35, _, _, _, _, _⟩) (v := ?_) rfl (by kernel_rfl) (by kernel_rfl) (by kernel_rfl) (fun _ _ _ h => h) (Or.inl ⟨by rfl, ?_⟩) (by assumption) ?_
              rotate_left
              · intro w_ hSw; (try dsimp only at hSw); go_simp <;> with_reducible rfl
              simp only [Act.put, List.setIfInBounds_toArray, List.set_cons_zero, List.set_cons_succ]
              refine wpAnyH_take (i := 4) (oi := ⟨some 39, _, _, _, _, _⟩) (v := ?_) rfl (by kernel_rfl) (by kernel_rfl) (by kernel_rfl) (fun _ _ _ h => h) (Or.inl ⟨by rfl, ?_⟩) (by assumption) ?_
              rotate_left
              · intro w_ hSw; (try dsimp only at hSw); go_simp <;> with_reducible rfl
              simp only [Act.put, List.setIfInBounds_toArray, List.set_cons_zero, List.set_cons_succ]
              refine wpAnyH_take (i := 5) (oi := ⟨some 40, _, _, _, _, _⟩) (v := ?_) rfl (by kernel_rfl) (by kernel_rfl) (by kernel_rfl) (fun _ _ _ h => h) (Or.inl ⟨by rfl, ?_⟩) (by assumption) ?_
              rotate_left
              · intro w_ hSw; (try dsimp only at hSw); go_simp <;> with_reducible rfl
              simp only [Act.put, List.setIfInBounds_toArray, List.set_cons_zero, List.set_cons_succ]
              refine wpAnyH_ready (rs := [7]) (by kernel_rfl) (by simp) ?_
              refine AllReadyH.cons (o := ⟨none, _, _, _, _, _⟩) rfl (fun K hK => ?_) ?_
              · rw [if_pos (by rfl)]
                obtain ⟨s0, s1, s2, s3⟩ := hHeld
                obtain ⟨o_, h_, e_⟩ := s3
                refine wp_store_row 34 _ _ rfl (gy) #[.slice X4 1 x4, .int .i64 3] (by rfl) (by rfl) 34 o_ h_.raw11 (by kernel_rfl) e_ (by kernel_rfl) ?_
                have HN := Lib.hid (HN.out.row h_ (by decide) #[.slice X4 1 x4, .int .i64 3])
                refine hK.out _ _ ?_ (fun hHeld => ?_)
                · exact ⟨has_rowo11 s0 (by omega) _, s1.row h_ (by decide) _, below_row s2 (by omega) _, ⟨_, has_row11 h_ _, rfl⟩⟩
                refine wpAnyH_more11 (T := (fun W_ => (Has W_ (g1) 34 #[.slice X3 2 x3, .int .i64 3]) ∧ (LkT W_ X3 2 x3 ([⟨1, 5, 1⟩, ⟨2, 5, 2⟩])) ∧ (Below w.heap.size w W_) ∧ (∃ o_ : Array Value, Has W_ (gy) 34 o_ ∧ o_.size = 2) ∧ (Has W_ (gy) 34 #[.slice X4 1 x4, .int .i64 3]))) (fun _ ⟨s0, s1, s2, s3, s4⟩ => ⟨s0, s1, s2, s3⟩) ?_
                have hHeld2 : (fun W_ => (Has W_ (g1) 34 #[.slice X3 2 x3, .int .i64 3]) ∧ (LkT W_ X3 2 x3 ([⟨1, 5, 1⟩, ⟨2, 5, 2⟩])) ∧ (Below w.heap.size w W_) ∧ (∃ o_ : Array Value, Has W_ (gy) 34 o_ ∧ o_.size = 2) ∧ (Has W_ (gy) 34 #[.slice X4 1 x4, .int .i64 3])) _ := ⟨has_rowo11 s0 (by omega) _, s1.row h_ (by decide) _, below_row s2 (by omega) _, ⟨_, has_row11 h_ _, rfl⟩, has_row11 h_ _⟩
                clear hHeld
                have hHeld := hHeld2
                clear hHeld2
                clear hK K h_ e_ s0 s1 s2
                try simp only [Act.put]
                refine wpAnyH_take (i := 8) (oi := ⟨some 10, _, _, _, _, _⟩) (v := ?_) rfl (by kernel_rfl) (by kernel_rfl) (by kernel_rfl) (fun _ _ _ h => h) (Or.inl ⟨by rfl, ?_⟩) (by assumption) ?_
                rotate_left
                · intro w_ hSw; (try dsimp only at hSw); go_simp <;> with_reducible rfl
                simp only [Act.put, List.setIfInBounds_toArray, List.set_cons_zero, List.set_cons_succ]
                refine wpAnyH_done (by kernel_rfl) ?_ _
                go_wp2_with fail
                go_meet
                exact ⟨rfl, _, _, _, rfl, hHeld.2.2.2.2, HN.out, hHeld.1, hHeld.2.1, hHeld.2.2.1⟩
              exact AllReadyH.nil
            exact AllReadyH.nil
          exact AllReadyH.nil
        exact AllReadyH.nil
      case rest =>
        obtain ⟨rfl, gy, X4, x4, rfl, hy_, hky_, hx_, hk_, hb_⟩ := hcut
        have HY := Lib.hid hy_; have HKY := Lib.hid hky_; have HX1 := Lib.hid hx_; have HK1 := Lib.hid hk_; have HB := Lib.hid hb_
        clear hy_ hky_ hx_ hk_ hb_
        obtain ⟨u4, hu4⟩ : ∃ u4, u4 = wc := ⟨_, rfl⟩
        subst hu4
        go_upto_region 5 with fail
        go_cut [13] (fun s13 wx => s13 = .int .i64 160 ∧ Has wx g1 34 #[.slice X3 2 x3, .int .i64 3] ∧ LkT wx X3 2 x3 [⟨1, 5, 1⟩, ⟨2, 5, 2⟩] ∧ Below w.heap.size w wx)
        case first =>
          refine wp_region_held_drew (S := (fun W_ => (Has W_ (g1) 34 #[.slice X3 2 x3, .int .i64 3]) ∧ (LkT W_ X3 2 x3 ([⟨1, 5, 1⟩, ⟨2, 5, 2⟩])) ∧ (Below w.heap.size w W_) ∧ (Has W_ (gy) 34 #[.slice X4 1 x4, .int .i64 3]) ∧ (LkT W_ X4 1 x4 ([⟨2, 5, 2⟩])))) (by kernel_rfl) ?_ (fun hHeld => ?_)
          · exact ⟨HX1.out.draw, HK1.out.under (below_dr11 (Below.refl _ _)), below_dr11 HB.out, HY.out.draw, HKY.out.under (below_dr11 (Below.refl _ _))⟩
          refine wpAnyH_take (i := 1) (oi := ⟨some 43, _, _, _, _, _⟩) (v := .agg #[.slice X4 1 x4, .int .i64 3]) rfl (by kernel_rfl) (by kernel_rfl) (by kernel_rfl) (fun _ _ _ h => h) (yields_load_row11 34 _ rfl (gy) rfl 34 #[.slice X4 1 x4, .int .i64 3] _ (fun _ ⟨_, _, _, h_, _⟩ => h_) Try.underlying34 rfl (by kernel_rfl) (by rfl)) (by assumption) ?_
          simp only [Act.put, List.setIfInBounds_toArray, List.set_cons_zero, List.set_cons_succ]
          refine wpAnyH_ready (rs := [0, 7]) (by kernel_rfl) (by simp) ?_
          refine AllReadyH.cons (o := ⟨some 42, _, _, _, _, _⟩) rfl (fun K hK => ?_) ?_
          · go_simp
            obtain ⟨s0, s1, s2, s3, s4⟩ := hHeld
            refine (line_any _).mono ?_
            rintro e_ q5 ⟨a5, rfl, ht_, hcj_, hb_⟩
            have HCJ5 := Lib.hid hcj_
            have HT5 := Lib.hid (ht_)
            go_wp2_with fail
            refine hK.out _ _ ?_ (fun hHeld => ?_)
            · exact ⟨s0.under hb_ s0.lt, s1.under hb_, s2.trans (hb_.mono s2.size), s3.under hb_ s3.lt, s4.under hb_⟩
            clear hK K s0 s1 s2 s3 s4
            try simp only [Act.put, List.setIfInBounds_toArray, List.set_cons_zero, List.set_cons_succ]
            refine wpAnyH_ready (rs := [2, 7]) (by kernel_rfl) (by simp) ?_
            refine AllReadyH.cons (o := ⟨some 44, _, _, _, _, _⟩) rfl (fun K hK => ?_) ?_
            · go_simp
              obtain ⟨s0, s1, s2, s3, s4⟩ := hHeld
              refine (olc_set lineT a5 [⟨2, 5, 2⟩] 3 X4 1 x4 _ 1 6 HT5.out line_light HCJ5.out s4.1 s4.2.1 (by omega)).mono ?_
              rw [a16_5]
              rintro e_ q6 ⟨X5, k5, x5, rfl, hl_, hb_⟩
              obtain rfl : 0 = k5 := hl_.1.1
              unfold zeroI
              dsimp only
              have HT5 := Lib.hid (HT5.out.under hb_)
              go_wp2_with fail
              refine hK.out _ _ ?_ (fun hHeld => ?_)
              · exact ⟨s0.under hb_ s0.lt, s1.under hb_, s2.trans (hb_.mono s2.size), s3.under hb_ s3.lt, s4.under hb_⟩
              clear hK K s0 s1 s2 s3 s4
              try simp only [Act.put, List.setIfInBounds_toArray, List.set_cons_zero, List.set_cons_succ]
              refine wpAnyH_take (i := 3) (oi := ⟨some 41, _, _, _, _, _⟩) (v := ?_) rfl (by kernel_rfl) (by kernel_rfl) (by kernel_rfl) (fun _ _ _ h => h) (Or.inl ⟨by rfl, ?_⟩) (by assumption) ?_
              rotate_left
              · intro w_ hSw; (try dsimp only at hSw); go_simp <;> with_reducible rfl
              simp only [Act.put, List.setIfInBounds_toArray, List.set_cons_zero, List.set_cons_succ]
              refine wpAnyH_take (i := 4) (oi := ⟨some 45, _, _, _, _, _⟩) (v := ?_) rfl (by kernel_rfl) (by kernel_rfl) (by kernel_rfl) (fun _ _ _ h => h) (Or.inl ⟨by rfl, ?_⟩) (by assumption) ?_
              rotate_left
              · intro w_ hSw; (try dsimp only at hSw); go_simp <;> with_reducible rfl
              simp only [Act.put, List.setIfInBounds_toArray, List.set_cons_zero, List.set_cons_succ]
              refine wpAnyH_take (i := 5) (oi := ⟨some 46, _, _, _, _, _⟩) (v := ?_) rfl (by kernel_rfl) (by kernel_rfl) (by kernel_rfl) (fun _ _ _ h => h) (Or.inl ⟨by rfl, ?_⟩) (by assumption) ?_
              rotate_left
              · intro w_ hSw; (try dsimp only at hSw); go_simp <;> with_reducible rfl
              simp only [Act.put, List.setIfInBounds_toArray, List.set_cons_zero, List.set_cons_succ]
              refine wpAnyH_take (i := 6) (oi := ⟨some 47, _, _, _, _, _⟩) (v := ?_) rfl (by kernel_rfl) (by kernel_rfl) (by kernel_rfl) (fun _ _ _ h => h) (Or.inl ⟨by rfl, ?_⟩) (by assumption) ?_
              rotate_left
              · intro w_ hSw; (try dsimp only at hSw); go_simp <;> with_reducible rfl
              simp only [Act.put, List.setIfInBounds_toArray, List.set_cons_zero, List.set_cons_succ]
              refine wpAnyH_ready (rs := [7]) (by kernel_rfl) (by simp) ?_
              refine AllReadyH.cons (o := ⟨some 11, _, _, _, _, _⟩) rfl (fun K hK => ?_) ?_
              · go_simp
                obtain ⟨s0, s1, s2, s3, s4⟩ := hHeld
                obtain ⟨gz, hgz⟩ : ∃ gz, q6.heap.size = gz := ⟨_, rfl⟩
                have p0_gz : g1 < gz := by rw [← hgz]; exact s0.lt
                have p2_gz : w.heap.size ≤ gz := by rw [← hgz]; exact s2.size
                have p3_gz : gy < gz := by rw [← hgz]; exact s3.lt
                rw [hgz]
                refine hK.out _ _ ?_ (fun hHeld => ?_)
                · exact ⟨s0.beside _, s1.under ((Below.refl _ _).alloc (Nat.le_refl _) _), below_al11 s2 _, s3.beside _, s4.under ((Below.refl _ _).alloc (Nat.le_refl _) _)⟩
                have HT5 := Lib.hid (HT5.out.under ((Below.refl _ _).alloc (Nat.le_refl _) (.cells #[.slice none 0 0, .int .i64 0] 34)))
                refine wpAnyH_more11 (T := (fun W_ => (Has W_ (g1) 34 #[.slice X3 2 x3, .int .i64 3]) ∧ (LkT W_ X3 2 x3 ([⟨1, 5, 1⟩, ⟨2, 5, 2⟩])) ∧ (Below w.heap.size w W_) ∧ (Has W_ (gy) 34 #[.slice X4 1 x4, .int .i64 3]) ∧ (LkT W_ X4 1 x4 ([⟨2, 5, 2⟩])) ∧ (∃ o_ : Array Value, Has W_ (gz) 34 o_ ∧ o_.size = 2))) (fun _ ⟨s0, s1, s2, s3, s4, s5⟩ => ⟨s0, s1, s2, s3, s4⟩) ?_
                have hHeld2 : (fun W_ => (Has W_ (g1) 34 #[.slice X3 2 x3, .int .i64 3]) ∧ (LkT W_ X3 2 x3 ([⟨1, 5, 1⟩, ⟨2, 5, 2⟩])) ∧ (Below w.heap.size w W_) ∧ (Has W_ (gy) 34 #[.slice X4 1 x4, .int .i64 3]) ∧ (LkT W_ X4 1 x4 ([⟨2, 5, 2⟩])) ∧ (∃ o_ : Array Value, Has W_ (gz) 34 o_ ∧ o_.size = 2)) _ := ⟨s0.beside _, s1.under ((Below.refl _ _).alloc (Nat.le_refl _) _), below_al11 s2 _, s3.beside _, s4.under ((Below.refl _ _).alloc (Nat.le_refl _) _), ⟨#[.slice none 0 0, .int .i64 0], (by rw [← hgz]; exact Has.made _ _ _), rfl⟩⟩
                clear hHeld
                have hHeld := hHeld2
                clear hHeld2
                clear hK K hgz s0 s1 s2 s3 s4
                try simp only [Act.put, List.setIfInBounds_toArray, List.set_cons_zero, List.set_cons_succ]
                refine wpAnyH_ready (rs := [8]) (by kernel_rfl) (by simp) ?_
                refine AllReadyH.cons (o := ⟨none, _, _, _, _, _⟩) rfl (fun K hK => ?_) ?_
                · rw [if_pos (by rfl)]
                  obtain ⟨s0, s1, s2, s3, s4, s5⟩ := hHeld
                  obtain ⟨o_, h_, e_⟩ := s5
                  refine wp_store_row 34 _ _ rfl (gz) #[.slice X5 0 x5, .int .i64 0] (by rfl) (by rfl) 34 o_ h_.raw11 (by kernel_rfl) e_ (by kernel_rfl) ?_
                  refine hK.out _ _ ?_ (fun hHeld => ?_)
                  · exact ⟨has_rowo11 s0 (by omega) _, s1.row h_ (by decide) _, below_row s2 (by omega) _, has_rowo11 s3 (by omega) _, s4.row h_ (by decide) _, ⟨_, has_row11 h_ _, rfl⟩⟩
                  refine wpAnyH_more11 (T := (fun W_ => (Has W_ (g1) 34 #[.slice X3 2 x3, .int .i64 3]) ∧ (LkT W_ X3 2 x3 ([⟨1, 5, 1⟩, ⟨2, 5, 2⟩])) ∧ (Below w.heap.size w W_) ∧ (Has W_ (gy) 34 #[.slice X4 1 x4, .int .i64 3]) ∧ (LkT W_ X4 1 x4 ([⟨2, 5, 2⟩])) ∧ (∃ o_ : Array Value, Has W_ (gz) 34 o_ ∧ o_.size = 2) ∧ (Has W_ (gz) 34 #[.slice X5 0 x5, .int .i64 0]))) (fun _ ⟨s0, s1, s2, s3, s4, s5, s6⟩ => ⟨s0, s1, s2, s3, s4, s5⟩) ?_
                  have hHeld2 : (fun W_ => (Has W_ (g1) 34 #[.slice X3 2 x3, .int .i64 3]) ∧ (LkT W_ X3 2 x3 ([⟨1, 5, 1⟩, ⟨2, 5, 2⟩])) ∧ (Below w.heap.size w W_) ∧ (Has W_ (gy) 34 #[.slice X4 1 x4, .int .i64 3]) ∧ (LkT W_ X4 1 x4 ([⟨2, 5, 2⟩])) ∧ (∃ o_ : Array Value, Has W_ (gz) 34 o_ ∧ o_.size = 2) ∧ (Has W_ (gz) 34 #[.slice X5 0 x5, .int .i64 0])) _ := ⟨has_rowo11 s0 (by omega) _, s1.row h_ (by decide) _, below_row s2 (by omega) _, has_rowo11 s3 (by omega) _, s4.row h_ (by decide) _, ⟨_, has_row11 h_ _, rfl⟩, has_row11 h_ _⟩
                  clear hHeld
                  have hHeld := hHeld2
                  clear hHeld2
                  clear hK K h_ e_ s0 s1 s2 s3 s4
                  try simp only [Act.put]
                  refine wpAnyH_take (i := 9) (oi := ⟨some 12, _, _, _, _, _⟩) (v := ?_) rfl (by kernel_rfl) (by kernel_rfl) (by kernel_rfl) (fun _ _ _ h => h) (Or.inl ⟨by rfl, ?_⟩) (by assumption) ?_
                  rotate_left
                  · intro w_ hSw; (try dsimp only at hSw); go_simp <;> with_reducible rfl
                  simp only [Act.put, List.setIfInBounds_toArray, List.set_cons_zero, List.set_cons_succ]
                  refine wpAnyH_take (i := 10) (oi := ⟨some 13, _, _, _, _, _⟩) (v := ?_) rfl (by kernel_rfl) (by kernel_rfl) (by kernel_rfl) (fun _ _ _ h => h) (Or.inl ⟨by rfl, ?_⟩) (by assumption) ?_
                  rotate_left
                  · intro w_ hSw; (try dsimp only at hSw); go_simp <;> with_reducible rfl
                  simp only [Act.put, List.setIfInBounds_toArray, List.set_cons_zero, List.set_cons_succ]
                  refine wpAnyH_done (by kernel_rfl) ?_ _
                  go_wp2_with fail
                  go_meet
                  exact ⟨rfl, hHeld.1, hHeld.2.1, hHeld.2.2.1⟩
                exact AllReadyH.nil
              exact AllReadyH.nil
            refine AllReadyH.cons (o := ⟨some 11, _, _, _, _, _⟩) rfl (fun K hK => ?_) ?_
            · go_simp
              obtain ⟨s0, s1, s2, s3, s4⟩ := hHeld
              obtain ⟨gz, hgz⟩ : ∃ gz, q5.heap.size = gz := ⟨_, rfl⟩
              have p0_gz : g1 < gz := by rw [← hgz]; exact s0.lt
              have p2_gz : w.heap.size ≤ gz := by rw [← hgz]; exact s2.size
              have p3_gz : gy < gz := by rw [← hgz]; exact s3.lt
              rw [hgz]
              refine hK.out _ _ ?_ (fun hHeld => ?_)
              · exact ⟨s0.beside _, s1.under ((Below.refl _ _).alloc (Nat.le_refl _) _), below_al11 s2 _, s3.beside _, s4.under ((Below.refl _ _).alloc (Nat.le_refl _) _)⟩
              have HT5 := Lib.hid (HT5.out.under ((Below.refl _ _).alloc (Nat.le_refl _) (.cells #[.slice none 0 0, .int .i64 0] 34)))
              refine wpAnyH_more11 (T := (fun W_ => (Has W_ (g1) 34 #[.slice X3 2 x3, .int .i64 3]) ∧ (LkT W_ X3 2 x3 ([⟨1, 5, 1⟩, ⟨2, 5, 2⟩])) ∧ (Below w.heap.size w W_) ∧ (Has W_ (gy) 34 #[.slice X4 1 x4, .int .i64 3]) ∧ (LkT W_ X4 1 x4 ([⟨2, 5, 2⟩])) ∧ (∃ o_ : Array Value, Has W_ (gz) 34 o_ ∧ o_.size = 2))) (fun _ ⟨s0, s1, s2, s3, s4, s5⟩ => ⟨s0, s1, s2, s3, s4⟩) ?_
              have hHeld2 : (fun W_ => (Has W_ (g1) 34 #[.slice X3 2 x3, .int .i64 3]) ∧ (LkT W_ X3 2 x3 ([⟨1, 5, 1⟩, ⟨2, 5, 2⟩])) ∧ (Below w.heap.size w W_) ∧ (Has W_ (gy) 34 #[.slice X4 1 x4, .int .i64 3]) ∧ (LkT W_ X4 1 x4 ([⟨2, 5, 2⟩])) ∧ (∃ o_ : Array Value, Has W_ (gz) 34 o_ ∧ o_.size = 2)) _ := ⟨s0.beside _, s1.under ((Below.refl _ _).alloc (Nat.le_refl _) _), below_al11 s2 _, s3.beside _, s4.under ((Below.refl _ _).alloc (Nat.le_refl _) _), ⟨#[.slice none 0 0, .int .i64 0], (by rw [← hgz]; exact Has.made _ _ _), rfl⟩⟩
              clear hHeld
              have hHeld := hHeld2
              clear hHeld2
              clear hK K hgz s0 s1 s2 s3 s4
              try simp only [Act.put, List.setIfInBounds_toArray, List.set_cons_zero, List.set_cons_succ]
              refine wpAnyH_ready (rs := [2]) (by kernel_rfl) (by simp) ?_
              refine AllReadyH.cons (o := ⟨some 44, _, _, _, _, _⟩) rfl (fun K hK => ?_) ?_
              · go_simp
                obtain ⟨s0, s1, s2, s3, s4, s5⟩ := hHeld
                refine (olc_set lineT a5 [⟨2, 5, 2⟩] 3 X4 1 x4 _ 1 6 HT5.out line_light HCJ5.out s4.1 s4.2.1 (by omega)).mono ?_
                rw [a16_5]
                rintro e_ q6 ⟨X5, k5, x5, rfl, hl_, hb_⟩
                obtain rfl : 0 = k5 := hl_.1.1
                unfold zeroI
                dsimp only
                have HT5 := Lib.hid (HT5.out.under hb_)
                go_wp2_with fail
                refine hK.out _ _ ?_ (fun hHeld => ?_)
                · exact ⟨s0.under hb_ s0.lt, s1.under hb_, s2.trans (hb_.mono s2.size), s3.under hb_ s3.lt, s4.under hb_, (let ⟨o_, h_, e_⟩ := s5; ⟨o_, h_.under hb_ h_.lt, e_⟩)⟩
                clear hK K s0 s1 s2 s3 s4 s5
                try simp only [Act.put, List.setIfInBounds_toArray, List.set_cons_zero, List.set_cons_succ]
                refine wpAnyH_take (i := 3) (oi := ⟨some 41, _, _, _, _, _⟩) (v := ?_) rfl (by kernel_rfl) (by kernel_rfl) (by kernel_rfl) (fun _ _ _ h => h) (Or.inl ⟨by rfl, ?_⟩) (by assumption) ?_
                rotate_left
                · intro w_ hSw; (try dsimp only at hSw); go_simp <;> with_reducible rfl
                simp only [Act.put, List.setIfInBounds_toArray, List.set_cons_zero, List.set_cons_succ]
                refine wpAnyH_take (i := 4) (oi := ⟨some 45, _, _, _, _, _⟩) (v := ?_) rfl (by kernel_rfl) (by kernel_rfl) (by kernel_rfl) (fun _ _ _ h => h) (Or.inl ⟨by rfl, ?_⟩) (by assumption) ?_
                rotate_left
                · intro w_ hSw; (try dsimp only at hSw); go_simp <;> with_reducible rfl
                simp only [Act.put, List.setIfInBounds_toArray, List.set_cons_zero, List.set_cons_succ]
                refine wpAnyH_take (i := 5) (oi := ⟨some 46, _, _, _, _, _⟩) (v := ?_) rfl (by kernel_rfl) (by kernel_rfl) (by kernel_rfl) (fun _ _ _ h => h) (Or.inl ⟨by rfl, ?_⟩) (by assumption) ?_
                rotate_left
                · intro w_ hSw; (try dsimp only at hSw); go_simp <;> with_reducible rfl
                simp only [Act.put, List.setIfInBounds_toArray, List.set_cons_zero, List.set_cons_succ]
                refine wpAnyH_take (i := 6) (oi := ⟨some 47, _, _, _, _, _⟩) (v := ?_) rfl (by kernel_rfl) (by kernel_rfl) (by kernel_rfl) (fun _ _ _ h => h) (Or.inl ⟨by rfl, ?_⟩) (by assumption) ?_
                rotate_left
                · intro w_ hSw; (try dsimp only at hSw); go_simp <;> with_reducible rfl
                simp only [Act.put, List.setIfInBounds_toArray, List.set_cons_zero, List.set_cons_succ]
                refine wpAnyH_ready (rs := [8]) (by kernel_rfl) (by simp) ?_
                refine AllReadyH.cons (o := ⟨none, _, _, _, _, _⟩) rfl (fun K hK => ?_) ?_
                · rw [if_pos (by rfl)]
                  obtain ⟨s0, s1, s2, s3, s4, s5⟩ := hHeld
                  obtain ⟨o_, h_, e_⟩ := s5
                  refine wp_store_row 34 _ _ rfl (gz) #[.slice X5 0 x5, .int .i64 0] (by rfl) (by rfl) 34 o_ h_.raw11 (by kernel_rfl) e_ (by kernel_rfl) ?_
                  refine hK.out _ _ ?_ (fun hHeld => ?_)
                  · exact ⟨has_rowo11 s0 (by omega) _, s1.row h_ (by decide) _, below_row s2 (by omega) _, has_rowo11 s3 (by omega) _, s4.row h_ (by decide) _, ⟨_, has_row11 h_ _, rfl⟩⟩
                  refine wpAnyH_more11 (T := (fun W_ => (Has W_ (g1) 34 #[.slice X3 2 x3, .int .i64 3]) ∧ (LkT W_ X3 2 x3 ([⟨1, 5, 1⟩, ⟨2, 5, 2⟩])) ∧ (Below w.heap.size w W_) ∧ (Has W_ (gy) 34 #[.slice X4 1 x4, .int .i64 3]) ∧ (LkT W_ X4 1 x4 ([⟨2, 5, 2⟩])) ∧ (∃ o_ : Array Value, Has W_ (gz) 34 o_ ∧ o_.size = 2) ∧ (Has W_ (gz) 34 #[.slice X5 0 x5, .int .i64 0]))) (fun _ ⟨s0, s1, s2, s3, s4, s5, s6⟩ => ⟨s0, s1, s2, s3, s4, s5⟩) ?_
                  have hHeld2 : (fun W_ => (Has W_ (g1) 34 #[.slice X3 2 x3, .int .i64 3]) ∧ (LkT W_ X3 2 x3 ([⟨1, 5, 1⟩, ⟨2, 5, 2⟩])) ∧ (Below w.heap.size w W_) ∧ (Has W_ (gy) 34 #[.slice X4 1 x4, .int .i64 3]) ∧ (LkT W_ X4 1 x4 ([⟨2, 5, 2⟩])) ∧ (∃ o_ : Array Value, Has W_ (gz) 34 o_ ∧ o_.size = 2) ∧ (Has W_ (gz) 34 #[.slice X5 0 x5, .int .i64 0])) _ := ⟨has_rowo11 s0 (by omega) _, s1.row h_ (by decide) _, below_row s2 (by omega) _, has_rowo11 s3 (by omega) _, s4.row h_ (by decide) _, ⟨_, has_row11 h_ _, rfl⟩, has_row11 h_ _⟩
                  clear hHeld
                  have hHeld := hHeld2
                  clear hHeld2
                  clear hK K h_ e_ s0 s1 s2 s3 s4
                  try simp only [Act.put]
                  refine wpAnyH_take (i := 9) (oi := ⟨some 12, _, _, _, _, _⟩) (v := ?_) rfl (by kernel_rfl) (by kernel_rfl) (by kernel_rfl) (fun _ _ _ h => h) (Or.inl ⟨by rfl, ?_⟩) (by assumption) ?_
                  rotate_left
                  · intro w_ hSw; (try dsimp only at hSw); go_simp <;> with_reducible rfl
                  simp only [Act.put, List.setIfInBounds_toArray, List.set_cons_zero, List.set_cons_succ]
                  refine wpAnyH_take (i := 10) (oi := ⟨some 13, _, _, _, _, _⟩) (v := ?_) rfl (by kernel_rfl) (by kernel_rfl) (by kernel_rfl) (fun _ _ _ h => h) (Or.inl ⟨by rfl, ?_⟩) (by assumption) ?_
                  rotate_left
                  · intro w_ hSw; (try dsimp only at hSw); go_simp <;> with_reducible rfl
                  simp only [Act.put, List.setIfInBounds_toArray, List.set_cons_zero, List.set_cons_succ]
                  refine wpAnyH_done (by kernel_rfl) ?_ _
                  go_wp2_with fail
                  go_meet
                  exact ⟨rfl, hHeld.1, hHeld.2.1, hHeld.2.2.1⟩
                exact AllReadyH.nil
              exact AllReadyH.nil
            exact AllReadyH.nil
          refine AllReadyH.cons (o := ⟨some 11, _, _, _, _, _⟩) rfl (fun K hK => ?_) ?_
          · go_simp
            obtain ⟨s0, s1, s2, s3, s4⟩ := hHeld
            obtain ⟨gz, hgz⟩ : ∃ gz, u4.heap.size = gz := ⟨_, rfl⟩
            have p0_gz : g1 < gz := by rw [← hgz]; exact s0.lt
            have p2_gz : w.heap.size ≤ gz := by rw [← hgz]; exact s2.size
            have p3_gz : gy < gz := by rw [← hgz]; exact s3.lt
            rw [hgz]
            refine hK.out _ _ ?_ (fun hHeld => ?_)
            · exact ⟨s0.beside _, s1.under ((Below.refl _ _).alloc (Nat.le_refl _) _), below_al11 s2 _, s3.beside _, s4.under ((Below.refl _ _).alloc (Nat.le_refl _) _)⟩
            refine wpAnyH_more11 (T := (fun W_ => (Has W_ (g1) 34 #[.slice X3 2 x3, .int .i64 3]) ∧ (LkT W_ X3 2 x3 ([⟨1, 5, 1⟩, ⟨2, 5, 2⟩])) ∧ (Below w.heap.size w W_) ∧ (Has W_ (gy) 34 #[.slice X4 1 x4, .int .i64 3]) ∧ (LkT W_ X4 1 x4 ([⟨2, 5, 2⟩])) ∧ (∃ o_ : Array Value, Has W_ (gz) 34 o_ ∧ o_.size = 2))) (fun _ ⟨s0, s1, s2, s3, s4, s5⟩ => ⟨s0, s1, s2, s3, s4⟩) ?_
            have hHeld2 : (fun W_ => (Has W_ (g1) 34 #[.slice X3 2 x3, .int .i64 3]) ∧ (LkT W_ X3 2 x3 ([⟨1, 5, 1⟩, ⟨2, 5, 2⟩])) ∧ (Below w.heap.size w W_) ∧ (Has W_ (gy) 34 #[.slice X4 1 x4, .int .i64 3]) ∧ (LkT W_ X4 1 x4 ([⟨2, 5, 2⟩])) ∧ (∃ o_ : Array Value, Has W_ (gz) 34 o_ ∧ o_.size = 2)) _ := ⟨s0.beside _, s1.under ((Below.refl _ _).alloc (Nat.le_refl _) _), below_al11 s2 _, s3.beside _, s4.under ((Below.refl _ _).alloc (Nat.le_refl _) _), ⟨#[.slice none 0 0, .int .i64 0], (by rw [← hgz]; exact Has.made _ _ _), rfl⟩⟩
            clear hHeld
            have hHeld := hHeld2
            clear hHeld2
            clear hK K hgz s0 s1 s2 s3 s4
            try simp only [Act.put, List.setIfInBounds_toArray, List.set_cons_zero, List.set_cons_succ]
            refine wpAnyH_ready (rs := [0]) (by kernel_rfl) (by simp) ?_
            refine AllReadyH.cons (o := ⟨some 42, _, _, _, _, _⟩) rfl (fun K hK => ?_) ?_
            · go_simp
              obtain ⟨s0, s1, s2, s3, s4, s5⟩ := hHeld
              refine (line_any _).mono ?_
              rintro e_ q5 ⟨a5, rfl, ht_, hcj_, hb_⟩
              have HCJ5 := Lib.hid hcj_
              have HT5 := Lib.hid (ht_)
              go_wp2_with fail
              refine hK.out _ _ ?_ (fun hHeld => ?_)
              · exact ⟨s0.under hb_ s0.lt, s1.under hb_, s2.trans (hb_.mono s2.size), s3.under hb_ s3.lt, s4.under hb_, (let ⟨o_, h_, e_⟩ := s5; ⟨o_, h_.under hb_ h_.lt, e_⟩)⟩
              clear hK K s0 s1 s2 s3 s4 s5
              try simp only [Act.put, List.setIfInBounds_toArray, List.set_cons_zero, List.set_cons_succ]
              refine wpAnyH_ready (rs := [2]) (by kernel_rfl) (by simp) ?_
              refine AllReadyH.cons (o := ⟨some 44, _, _, _, _, _⟩) rfl (fun K hK => ?_) ?_
              · go_simp
                obtain ⟨s0, s1, s2, s3, s4, s5⟩ := hHeld
                refine (olc_set lineT a5 [⟨2, 5, 2⟩] 3 X4 1 x4 _ 1 6 HT5.out line_light HCJ5.out s4.1 s4.2.1 (by omega)).mono ?_
                rw [a16_5]
                rintro e_ q6 ⟨X5, k5, x5, rfl, hl_, hb_⟩
                obtain rfl : 0 = k5 := hl_.1.1
                unfold zeroI
                dsimp only
                have HT5 := Lib.hid (HT5.out.under hb_)
                go_wp2_with fail
                refine hK.out _ _ ?_ (fun hHeld => ?_)
                · exact ⟨s0.under hb_ s0.lt, s1.under hb_, s2.trans (hb_.mono s2.size), s3.under hb_ s3.lt, s4.under hb_, (let ⟨o_, h_, e_⟩ := s5; ⟨o_, h_.under hb_ h_.lt, e_⟩)⟩
                clear hK K s0 s1 s2 s3 s4 s5
                try simp only [Act.put, List.setIfInBounds_toArray, List.set_cons_zero, List.set_cons_succ]
                refine wpAnyH_take (i := 3) (oi := ⟨some 41, _, _, _, _, _⟩) (v := ?_) rfl (by kernel_rfl) (by kernel_rfl) (by kernel_rfl) (fun _ _ _ h => h) (Or.inl ⟨by rfl, ?_⟩) (by assumption) ?_
                rotate_left
                · intro w_ hSw; (try dsimp only at hSw); go_simp <;> with_reducible rfl
                simp only [Act.put, List.setIfInBounds_toArray, List.set_cons_zero, List.set_cons_succ]
                refine wpAnyH_take (i := 4) (oi := ⟨some 45, _, _, _, _, _⟩) (v := ?_) rfl (by kernel_rfl) (by kernel_rfl) (by kernel_rfl) (fun _ _ _ h => h) (Or.inl ⟨by rfl, ?_⟩) (by assumption) ?_
                rotate_left
                · intro w_ hSw; (try dsimp only at hSw); go_simp <;> with_reducible rfl
                simp only [Act.put, List.setIfInBounds_toArray, List.set_cons_zero, List.set_cons_succ]
                refine wpAnyH_take (i := 5) (oi := ⟨some 46, _, _, _, _, _⟩) (v := ?_) rfl (by kernel_rfl) (by kernel_rfl) (by kernel_rfl) (fun _ _ _ h => h) (Or.inl ⟨by rfl, ?_⟩) (by assumption) ?_
                rotate_left
                · intro w_ hSw; (try dsimp only at hSw); go_simp <;> with_reducible rfl
                simp only [Act.put, List.setIfInBounds_toArray, List.set_cons_zero, List.set_cons_succ]
                refine wpAnyH_take (i := 6) (oi := ⟨some 47, _, _, _, _, _⟩) (v := ?_) rfl (by kernel_rfl) (by kernel_rfl) (by kernel_rfl) (fun _ _ _ h => h) (Or.inl ⟨by rfl, ?_⟩) (by assumption) ?_
                rotate_left
                · intro w_ hSw; (try dsimp only at hSw); go_simp <;> with_reducible rfl
                simp only [Act.put, List.setIfInBounds_toArray, List.set_cons_zero, List.set_cons_succ]
                refine wpAnyH_ready (rs := [8]) (by kernel_rfl) (by simp) ?_
                refine AllReadyH.cons (o := ⟨none, _, _, _, _, _⟩) rfl (fun K hK => ?_) ?_
                · rw [if_pos (by rfl)]
                  obtain ⟨s0, s1, s2, s3, s4, s5⟩ := hHeld
                  obtain ⟨o_, h_, e_⟩ := s5
                  refine wp_store_row 34 _ _ rfl (gz) #[.slice X5 0 x5, .int .i64 0] (by rfl) (by rfl) 34 o_ h_.raw11 (by kernel_rfl) e_ (by kernel_rfl) ?_
                  refine hK.out _ _ ?_ (fun hHeld => ?_)
                  · exact ⟨has_rowo11 s0 (by omega) _, s1.row h_ (by decide) _, below_row s2 (by omega) _, has_rowo11 s3 (by omega) _, s4.row h_ (by decide) _, ⟨_, has_row11 h_ _, rfl⟩⟩
                  refine wpAnyH_more11 (T := (fun W_ => (Has W_ (g1) 34 #[.slice X3 2 x3, .int .i64 3]) ∧ (LkT W_ X3 2 x3 ([⟨1, 5, 1⟩, ⟨2, 5, 2⟩])) ∧ (Below w.heap.size w W_) ∧ (Has W_ (gy) 34 #[.slice X4 1 x4, .int .i64 3]) ∧ (LkT W_ X4 1 x4 ([⟨2, 5, 2⟩])) ∧ (∃ o_ : Array Value, Has W_ (gz) 34 o_ ∧ o_.size = 2) ∧ (Has W_ (gz) 34 #[.slice X5 0 x5, .int .i64 0]))) (fun _ ⟨s0, s1, s2, s3, s4, s5, s6⟩ => ⟨s0, s1, s2, s3, s4, s5⟩) ?_
                  have hHeld2 : (fun W_ => (Has W_ (g1) 34 #[.slice X3 2 x3, .int .i64 3]) ∧ (LkT W_ X3 2 x3 ([⟨1, 5, 1⟩, ⟨2, 5, 2⟩])) ∧ (Below w.heap.size w W_) ∧ (Has W_ (gy) 34 #[.slice X4 1 x4, .int .i64 3]) ∧ (LkT W_ X4 1 x4 ([⟨2, 5, 2⟩])) ∧ (∃ o_ : Array Value, Has W_ (gz) 34 o_ ∧ o_.size = 2) ∧ (Has W_ (gz) 34 #[.slice X5 0 x5, .int .i64 0])) _ := ⟨has_rowo11 s0 (by omega) _, s1.row h_ (by decide) _, below_row s2 (by omega) _, has_rowo11 s3 (by omega) _, s4.row h_ (by decide) _, ⟨_, has_row11 h_ _, rfl⟩, has_row11 h_ _⟩
                  clear hHeld
                  have hHeld := hHeld2
                  clear hHeld2
                  clear hK K h_ e_ s0 s1 s2 s3 s4
                  try simp only [Act.put]
                  refine wpAnyH_take (i := 9) (oi := ⟨some 12, _, _, _, _, _⟩) (v := ?_) rfl (by kernel_rfl) (by kernel_rfl) (by kernel_rfl) (fun _ _ _ h => h) (Or.inl ⟨by rfl, ?_⟩) (by assumption) ?_
                  rotate_left
                  · intro w_ hSw; (try dsimp only at hSw); go_simp <;> with_reducible rfl
                  simp only [Act.put, List.setIfInBounds_toArray, List.set_cons_zero, List.set_cons_succ]
                  refine wpAnyH_take (i := 10) (oi := ⟨some 13, _, _, _, _, _⟩) (v := ?_) rfl (by kernel_rfl) (by kernel_rfl) (by kernel_rfl) (fun _ _ _ h => h) (Or.inl ⟨by rfl, ?_⟩) (by assumption) ?_
                  rotate_left
                  · intro w_ hSw; (try dsimp only at hSw); go_simp <;> with_reducible rfl
                  simp only [Act.put, List.setIfInBounds_toArray, List.set_cons_zero, List.set_cons_succ]
                  refine wpAnyH_done (by kernel_rfl) ?_ _
                  go_wp2_with fail
                  go_meet
                  exact ⟨rfl, hHeld.1, hHeld.2.1, hHeld.2.2.1⟩
                exact AllReadyH.nil
              exact AllReadyH.nil
            exact AllReadyH.nil
          exact AllReadyH.nil
        case rest =>
          obtain ⟨rfl, hx_, hk_, hb_⟩ := hcut
          have HX1 := Lib.hid hx_; have HK1 := Lib.hid hk_; have HB := Lib.hid hb_
          clear hx_ hk_ hb_ HY HKY
          obtain ⟨u5, hu5⟩ : ∃ u5, u5 = wc := ⟨_, rfl⟩
          subst hu5
          go_upto_region 6 with fail
          refine wp_region_held_drew (S := (fun W_ => (Has W_ (g1) 34 #[.slice X3 2 x3, .int .i64 3]) ∧ (LkT W_ X3 2 x3 ([⟨1, 5, 1⟩, ⟨2, 5, 2⟩])) ∧ (Below w.heap.size w W_))) (by kernel_rfl) ?_ (fun hHeld => ?_)
          · exact ⟨HX1.out.draw, HK1.out.under (below_dr11 (Below.refl _ _)), below_dr11 HB.out⟩
          refine wpAnyH_take (i := 0) (oi := ⟨some 48, _, _, _, _, _⟩) (v := ?_) rfl (by kernel_rfl) (by kernel_rfl) (by kernel_rfl) (fun _ _ _ h => h) (Or.inl ⟨by rfl, ?_⟩) (by assumption) ?_
          rotate_left
          · intro w_ hSw; (try dsimp only at hSw); go_simp <;> with_reducible rfl
          simp only [Act.put, List.setIfInBounds_toArray, List.set_cons_zero, List.set_cons_succ]
          refine wpAnyH_take (i := 1) (oi := ⟨some 49, _, _, _, _, _⟩) (v := ?_) rfl (by kernel_rfl) (by kernel_rfl) (by kernel_rfl) (fun _ _ _ h => h) (Or.inl ⟨by rfl, ?_⟩) (by assumption) ?_
          rotate_left
          · intro w_ hSw; (try dsimp only at hSw); go_simp <;> with_reducible rfl
          simp only [Act.put, List.setIfInBounds_toArray, List.set_cons_zero, List.set_cons_succ]
          refine wpAnyH_take (i := 2) (oi := ⟨some 50, _, _, _, _, _⟩) (v := ?_) rfl (by kernel_rfl) (by kernel_rfl) (by kernel_rfl) (fun _ _ _ h => h) (Or.inl ⟨by rfl, ?_⟩) (by assumption) ?_
          rotate_left
          · intro w_ hSw; (try dsimp only at hSw); go_simp <;> with_reducible rfl
          simp only [Act.put, List.setIfInBounds_toArray, List.set_cons_zero, List.set_cons_succ]
          refine wpAnyH_take (i := 3) (oi := ⟨some 51, _, _, _, _, _⟩) (v := ?_) rfl (by kernel_rfl) (by kernel_rfl) (by kernel_rfl) (fun _ _ _ h => h) (Or.inl ⟨by rfl, ?_⟩) (by assumption) ?_
          rotate_left
          · intro w_ hSw; (try dsimp only at hSw); go_simp <;> with_reducible rfl
          simp only [Act.put, List.setIfInBounds_toArray, List.set_cons_zero, List.set_cons_succ]
          refine wpAnyH_take (i := 4) (oi := ⟨some 52, _, _, _, _, _⟩) (v := ?_) rfl (by kernel_rfl) (by kernel_rfl) (by kernel_rfl) (fun _ _ _ h => h) (Or.inl ⟨by rfl, ?_⟩) (by assumption) ?_
          rotate_left
          · intro w_ hSw; (try dsimp only at hSw); go_simp <;> with_reducible rfl
          simp only [Act.put, List.setIfInBounds_toArray, List.set_cons_zero, List.set_cons_succ]
          refine wpAnyH_take (i := 5) (oi := ⟨some 53, _, _, _, _, _⟩) (v := ?_) rfl (by kernel_rfl) (by kernel_rfl) (by kernel_rfl) (fun _ _ _ h => h) (Or.inl ⟨by rfl, ?_⟩) (by assumption) ?_
          rotate_left
          · intro w_ hSw; (try dsimp only at hSw); go_simp <;> with_reducible rfl
          simp only [Act.put, List.setIfInBounds_toArray, List.set_cons_zero, List.set_cons_succ]
          refine wpAnyH_take (i := 6) (oi := ⟨some 54, _, _, _, _, _⟩) (v := ?_) rfl (by kernel_rfl) (by kernel_rfl) (by kernel_rfl) (fun _ _ _ h => h) (Or.inl ⟨by rfl, ?_⟩) (by assumption) ?_
          rotate_left
          · intro w_ hSw; (try dsimp only at hSw); go_simp <;> with_reducible rfl
          simp only [Act.put, List.setIfInBounds_toArray, List.set_cons_zero, List.set_cons_succ]
          refine wpAnyH_take (i := 7) (oi := ⟨some 55, _, _, _, _, _⟩) (v := ?_) rfl (by kernel_rfl) (by kernel_rfl) (by kernel_rfl) (fun _ _ _ h => h) (Or.inl ⟨by rfl, ?_⟩) (by assumption) ?_
          rotate_left
          · intro w_ hSw; (try dsimp only at hSw); go_simp <;> with_reducible rfl
          simp only [Act.put, List.setIfInBounds_toArray, List.set_cons_zero, List.set_cons_succ]
          refine wpAnyH_take (i := 8) (oi := ⟨some 56, _, _, _, _, _⟩) (v := ?_) rfl (by kernel_rfl) (by kernel_rfl) (by kernel_rfl) (fun _ _ _ h => h) (Or.inl ⟨by rfl, ?_⟩) (by assumption) ?_
          rotate_left
          · intro w_ hSw; (try dsimp only at hSw); go_simp <;> with_reducible rfl
          simp only [Act.put, List.setIfInBounds_toArray, List.set_cons_zero, List.set_cons_succ]
          refine wpAnyH_take (i := 9) (oi := ⟨some 57, _, _, _, _, _⟩) (v := ?_) rfl (by kernel_rfl) (by kernel_rfl) (by kernel_rfl) (fun _ _ _ h => h) (Or.inl ⟨by rfl, ?_⟩) (by assumption) ?_
          rotate_left
          · intro w_ hSw; (try dsimp only at hSw); go_simp <;> with_reducible rfl
          simp only [Act.put, List.setIfInBounds_toArray, List.set_cons_zero, List.set_cons_succ]
          refine wpAnyH_take (i := 10) (oi := ⟨some 58, _, _, _, _, _⟩) (v := ?_) rfl (by kernel_rfl) (by kernel_rfl) (by kernel_rfl) (fun _ _ _ h => h) (Or.inl ⟨by rfl, ?_⟩) (by assumption) ?_
          rotate_left
          · intro w_ hSw; (try dsimp only at hSw); go_simp <;> with_reducible rfl
          simp only [Act.put, List.setIfInBounds_toArray, List.set_cons_zero, List.set_cons_succ]
          refine wpAnyH_take (i := 11) (oi := ⟨some 59, _, _, _, _, _⟩) (v := ?_) rfl (by kernel_rfl) (by kernel_rfl) (by kernel_rfl) (fun _ _ _ h => h) (Or.inl ⟨by rfl, ?_⟩) (by assumption) ?_
          rotate_left
          · intro w_ hSw; (try dsimp only at hSw); go_simp <;> with_reducible rfl
          simp only [Act.put, List.setIfInBounds_toArray, List.set_cons_zero, List.set_cons_succ]
          refine wpAnyH_take (i := 12) (oi := ⟨some 60, _, _, _, _, _⟩) (v := ?_) rfl (by kernel_rfl) (by kernel_rfl) (by kernel_rfl) (fun _ _ _ h => h) (Or.inl ⟨by rfl, ?_⟩) (by assumption) ?_
          rotate_left
          · intro w_ hSw; (try dsimp only at hSw); go_simp <;> with_reducible rfl
          simp only [Act.put, List.setIfInBounds_toArray, List.set_cons_zero, List.set_cons_succ]
          refine wpAnyH_take (i := 13) (oi := ⟨some 61, _, _, _, _, _⟩) (v := ?_) rfl (by kernel_rfl) (by kernel_rfl) (by kernel_rfl) (fun _ _ _ h => h) (Or.inl ⟨by rfl, ?_⟩) (by assumption) ?_
          rotate_left
          · intro w_ hSw; (try dsimp only at hSw); go_simp <;> with_reducible rfl
          simp only [Act.put, List.setIfInBounds_toArray, List.set_cons_zero, List.set_cons_succ]
          refine wpAnyH_take (i := 14) (oi := ⟨some 62, _, _, _, _, _⟩) (v := ?_) rfl (by kernel_rfl) (by kernel_rfl) (by kernel_rfl) (fun _ _ _ h => h) (Or.inl ⟨by rfl, ?_⟩) (by assumption) ?_
          rotate_left
          · intro w_ hSw; (try dsimp only at hSw); go_simp <;> with_reducible rfl
          simp only [Act.put, List.setIfInBounds_toArray, List.set_cons_zero, List.set_cons_succ]
          refine wpAnyH_take (i := 15) (oi := ⟨some 63, _, _, _, _, _⟩) (v := ?_) rfl (by kernel_rfl) (by kernel_rfl) (by kernel_rfl) (fun _ _ _ h => h) (Or.inl ⟨by rfl, ?_⟩) (by assumption) ?_
          rotate_left
          · intro w_ hSw; (try dsimp only at hSw); go_simp <;> with_reducible rfl
          simp only [Act.put, List.setIfInBounds_toArray, List.set_cons_zero, List.set_cons_succ]
          refine wpAnyH_take (i := 16) (oi := ⟨some 64, _, _, _, _, _⟩) (v := ?_) rfl (by kernel_rfl) (by kernel_rfl) (by kernel_rfl) (fun _ _ _ h => h) (Or.inl ⟨by rfl, ?_⟩) (by assumption) ?_
          rotate_left
          · intro w_ hSw; (try dsimp only at hSw); go_simp <;> with_reducible rfl
          simp only [Act.put, List.setIfInBounds_toArray, List.set_cons_zero, List.set_cons_succ]
          refine wpAnyH_take (i := 17) (oi := ⟨some 65, _, _, _, _, _⟩) (v := ?_) rfl (by kernel_rfl) (by kernel_rfl) (by kernel_rfl) (fun _ _ _ h => h) (Or.inl ⟨by rfl, ?_⟩) (by assumption) ?_
          rotate_left
          · intro w_ hSw; (try dsimp only at hSw); go_simp <;> with_reducible rfl
          simp only [Act.put, List.setIfInBounds_toArray, List.set_cons_zero, List.set_cons_succ]
          refine wpAnyH_take (i := 18) (oi := ⟨some 66, _, _, _, _, _⟩) (v := ?_) rfl (by kernel_rfl) (by kernel_rfl) (by kernel_rfl) (fun _ _ _ h => h) (Or.inl ⟨by rfl, ?_⟩) (by assumption) ?_
          rotate_left
          · intro w_ hSw; (try dsimp only at hSw); go_simp <;> with_reducible rfl
          simp only [Act.put, List.setIfInBounds_toArray, List.set_cons_zero, List.set_cons_succ]
          refine wpAnyH_take (i := 19) (oi := ⟨some 67, _, _, _, _, _⟩) (v := ?_) rfl (by kernel_rfl) (by kernel_rfl) (by kernel_rfl) (fun _ _ _ h => h) (Or.inl ⟨by rfl, ?_⟩) (by assumption) ?_
          rotate_left
          · intro w_ hSw; (try dsimp only at hSw); go_simp <;> with_reducible rfl
          simp only [Act.put, List.setIfInBounds_toArray, List.set_cons_zero, List.set_cons_succ]
          refine wpAnyH_take (i := 20) (oi := ⟨some 68, _, _, _, _, _⟩) (v := ?_) rfl (by kernel_rfl) (by kernel_rfl) (by kernel_rfl) (fun _ _ _ h => h) (Or.inl ⟨by rfl, ?_⟩) (by assumption) ?_
          rotate_left
          · intro w_ hSw; (try dsimp only at hSw); go_simp <;> with_reducible rfl
          simp only [Act.put, List.setIfInBounds_toArray, List.set_cons_zero, List.set_cons_succ]
          refine wpAnyH_take (i := 21) (oi := ⟨some 69, _, _, _, _, _⟩) (v := ?_) rfl (by kernel_rfl) (by kernel_rfl) (by kernel_rfl) (fun _ _ _ h => h) (Or.inl ⟨by rfl, ?_⟩) (by assumption) ?_
          rotate_left
          · intro w_ hSw; (try dsimp only at hSw); go_simp <;> with_reducible rfl
          simp only [Act.put, List.setIfInBounds_toArray, List.set_cons_zero, List.set_cons_succ]
          refine wpAnyH_take (i := 22) (oi := ⟨some 70, _, _, _, _, _⟩) (v := ?_) rfl (by kernel_rfl) (by kernel_rfl) (by kernel_rfl) (fun _ _ _ h => h) (Or.inl ⟨by rfl, ?_⟩) (by assumption) ?_
          rotate_left
          · intro w_ hSw; (try dsimp only at hSw); go_simp <;> with_reducible rfl
          simp only [Act.put, List.setIfInBounds_toArray, List.set_cons_zero, List.set_cons_succ]
          refine wpAnyH_take (i := 23) (oi := ⟨some 71, _, _, _, _, _⟩) (v := ?_) rfl (by kernel_rfl) (by kernel_rfl) (by kernel_rfl) (fun _ _ _ h => h) (Or.inl ⟨by rfl, ?_⟩) (by assumption) ?_
          rotate_left
          · intro w_ hSw; (try dsimp only at hSw); go_simp <;> with_reducible rfl
          simp only [Act.put, List.setIfInBounds_toArray, List.set_cons_zero, List.set_cons_succ]
          refine wpAnyH_take (i := 24) (oi := ⟨some 72, _, _, _, _, _⟩) (v := ?_) rfl (by kernel_rfl) (by kernel_rfl) (by kernel_rfl) (fun _ _ _ h => h) (Or.inl ⟨by rfl, ?_⟩) (by assumption) ?_
          rotate_left
          · intro w_ hSw; (try dsimp only at hSw); go_simp <;> with_reducible rfl
          simp only [Act.put, List.setIfInBounds_toArray, List.set_cons_zero, List.set_cons_succ]
          refine wpAnyH_take (i := 25) (oi := ⟨some 73, _, _, _, _, _⟩) (v := ?_) rfl (by kernel_rfl) (by kernel_rfl) (by kernel_rfl) (fun _ _ _ h => h) (Or.inl ⟨by rfl, ?_⟩) (by assumption) ?_
          rotate_left
          · intro w_ hSw; (try dsimp only at hSw); go_simp <;> with_reducible rfl
          simp only [Act.put, List.setIfInBounds_toArray, List.set_cons_zero, List.set_cons_succ]
          refine wpAnyH_take (i := 26) (oi := ⟨some 74, _, _, _, _, _⟩) (v := ?_) rfl (by kernel_rfl) (by kernel_rfl) (by kernel_rfl) (fun _ _ _ h => h) (Or.inl ⟨by rfl, ?_⟩) (by assumption) ?_
          rotate_left
          · intro w_ hSw; (try dsimp only at hSw); go_simp <;> with_reducible rfl
          simp only [Act.put, List.setIfInBounds_toArray, List.set_cons_zero, List.set_cons_succ]
          refine wpAnyH_take (i := 28) (oi := ⟨some 76, _, _, _, _, _⟩) (v := .agg #[.slice X3 2 x3, .int .i64 3]) rfl (by kernel_rfl) (by kernel_rfl) (by kernel_rfl) (fun _ _ _ h => h) (yields_load_row11 34 _ rfl (g1) rfl 34 #[.slice X3 2 x3, .int .i64 3] _ (fun _ ⟨h_, _, _⟩ => h_) Try.underlying34 rfl (by kernel_rfl) (by rfl)) (by assumption) ?_
          simp only [Act.put, List.setIfInBounds_toArray, List.set_cons_zero, List.set_cons_succ]
          refine wpAnyH_ready (rs := [27]) (by kernel_rfl) (by simp) ?_
          refine AllReadyH.cons (o := ⟨some 75, _, _, _, _, _⟩) rfl (fun K hK => ?_) ?_
          · go_simp
            obtain ⟨s0, s1, s2⟩ := hHeld
            refine (line_any _).mono ?_
            rintro e_ q6 ⟨a6, rfl, ht_, hcj_, hb_⟩
            have HCJ6 := Lib.hid hcj_
            have HT6 := Lib.hid (ht_)
            go_wp2_with fail
            refine hK.out _ _ ?_ (fun hHeld => ?_)
            · exact ⟨s0.under hb_ s0.lt, s1.under hb_, s2.trans (hb_.mono s2.size)⟩
            clear hK K s0 s1 s2
            try simp only [Act.put, List.setIfInBounds_toArray, List.set_cons_zero, List.set_cons_succ]
            refine wpAnyH_ready (rs := [29]) (by kernel_rfl) (by simp) ?_
            refine AllReadyH.cons (o := ⟨some 77, _, _, _, _, _⟩) rfl (fun K hK => ?_) ?_
            · go_simp
              obtain ⟨s0, s1, s2⟩ := hHeld
              refine (olc_may lineT a6 [⟨1, 5, 1⟩, ⟨2, 5, 2⟩] 3 X3 2 x3 _ HT6.out line_light HCJ6.out s1.1 s1.2.1 (by omega)).mono ?_
              rw [a16_6]
              rintro e_ q7 ⟨rfl, hb_⟩
              have HT6 := Lib.hid (HT6.out.under hb_)
              go_wp2_with fail
              refine hK.out _ _ ?_ (fun hHeld => ?_)
              · exact ⟨s0.under hb_ s0.lt, s1.under hb_, s2.trans (hb_.mono s2.size)⟩
              clear hK K s0 s1 s2
              try simp only [Act.put, List.setIfInBounds_toArray, List.set_cons_zero, List.set_cons_succ]
              refine wpAnyH_take (i := 30) (oi := ⟨some 78, _, _, _, _, _⟩) (v := ?_) rfl (by kernel_rfl) (by kernel_rfl) (by kernel_rfl) (fun _ _ _ h => h) (Or.inl ⟨by rfl, ?_⟩) (by assumption) ?_
              rotate_left
              · intro w_ hSw; (try dsimp only at hSw); go_simp <;> with_reducible rfl
              simp only [Act.put, List.setIfInBounds_toArray, List.set_cons_zero, List.set_cons_succ]
              refine wpAnyH_take (i := 31) (oi := ⟨some 79, _, _, _, _, _⟩) (v := ?_) rfl (by kernel_rfl) (by kernel_rfl) (by kernel_rfl) (fun _ _ _ h => h) (Or.inl ⟨by rfl, ?_⟩) (by assumption) ?_
              rotate_left
              · intro w_ hSw; (try dsimp only at hSw); go_simp <;> with_reducible rfl
              simp only [Act.put, List.setIfInBounds_toArray, List.set_cons_zero, List.set_cons_succ]
              refine wpAnyH_take (i := 33) (oi := ⟨some 81, _, _, _, _, _⟩) (v := ?_) rfl (by kernel_rfl) (by kernel_rfl) (by kernel_rfl) (fun _ _ _ h => h) (Or.inl ⟨by rfl, ?_⟩) (by assumption) ?_
              rotate_left
              · intro w_ hSw; (try dsimp only at hSw); go_simp <;> with_reducible rfl
              simp only [Act.put, List.setIfInBounds_toArray, List.set_cons_zero, List.set_cons_succ]
              refine wpAnyH_take (i := 34) (oi := ⟨some 82, _, _, _, _, _⟩) (v := ?_) rfl (by kernel_rfl) (by kernel_rfl) (by kernel_rfl) (fun _ _ _ h => h) (Or.inl ⟨by rfl, ?_⟩) (by assumption) ?_
              rotate_left
              · intro w_ hSw; (try dsimp only at hSw); obtain ⟨s0, s1, s2⟩ := hSw; (have q_ : w_.cell? ⟨g1, 0, none⟩ = some (.slice X3 2 x3) := s0.cell 0); go_simp <;> with_reducible rfl
              simp only [Act.put, List.setIfInBounds_toArray, List.set_cons_zero, List.set_cons_succ]
              refine wpAnyH_ready (rs := [32]) (by kernel_rfl) (by simp) ?_
              refine AllReadyH.cons (o := ⟨some 80, _, _, _, _, _⟩) rfl (fun K hK => ?_) ?_
              · go_simp
                obtain ⟨s0, s1, s2⟩ := hHeld
                refine (line_any _).mono ?_
                rintro e_ q8 ⟨a8, rfl, ht_, hcj_, hb_⟩
                have HCJ8 := Lib.hid hcj_
                have HT6 := Lib.hid (HT6.out.under hb_)
                have HT8 := Lib.hid (ht_)
                go_wp2_with fail
                refine hK.out _ _ ?_ (fun hHeld => ?_)
                · exact ⟨s0.under hb_ s0.lt, s1.under hb_, s2.trans (hb_.mono s2.size)⟩
                clear hK K s0 s1 s2
                try simp only [Act.put, List.setIfInBounds_toArray, List.set_cons_zero, List.set_cons_succ]
                refine wpAnyH_ready (rs := [35]) (by kernel_rfl) (by simp) ?_
                refine AllReadyH.cons (o := ⟨some 83, _, _, _, _, _⟩) rfl (fun K hK => ?_) ?_
                · go_simp
                  obtain ⟨s0, s1, s2⟩ := hHeld
                  refine (olc_locked lineT a8 [⟨1, 5, 1⟩, ⟨2, 5, 2⟩] 5 X3 2 x3 _ HT8.out line_light HCJ8.out s1.1 s1.2.1 (by omega)).mono ?_
                  rintro e_ q9 ⟨X9, x9, rfl, hs_, hc_, hb_⟩
                  rw [a16_8] at hs_ hc_ ⊢
                  have HC9 := Lib.hid hc_
                  have HT6 := Lib.hid (HT6.out.under hb_)
                  have HT8 := Lib.hid (HT8.out.under hb_)
                  have HS9 := Lib.hid (hs_)
                  go_wp2_with fail
                  refine hK.out _ _ ?_ (fun hHeld => ?_)
                  · exact ⟨s0.under hb_ s0.lt, s1.under hb_, s2.trans (hb_.mono s2.size)⟩
                  clear hK K s0 s1 s2
                  try simp only [Act.put, List.setIfInBounds_toArray, List.set_cons_zero, List.set_cons_succ]
                  refine wpAnyH_ready (rs := [36]) (by kernel_rfl) (by simp) ?_
                  refine AllReadyH.cons (o := ⟨some 84, _, _, _, _, _⟩) rfl (fun K hK => ?_) ?_
                  · go_simp
                    obtain ⟨s0, s1, s2⟩ := hHeld
                    refine (osn_total (lockedL lineT [⟨1, 5, 1⟩, ⟨2, 5, 2⟩] 5) X9 3 x9 _ HS9.out HC9.out (by omega)).mono ?_
                    rw [a16_7]
                    rintro e_ q10 ⟨rfl, hb_⟩
                    have HT6 := Lib.hid (HT6.out.under hb_)
                    have HT8 := Lib.hid (HT8.out.under hb_)
                    have HS9 := Lib.hid (HS9.out.under hb_)
                    go_wp2_with fail
                    refine hK.out _ _ ?_ (fun hHeld => ?_)
                    · exact ⟨s0.under hb_ s0.lt, s1.under hb_, s2.trans (hb_.mono s2.size)⟩
                    clear hK K s0 s1 s2
                    try simp only [Act.put, List.setIfInBounds_toArray, List.set_cons_zero, List.set_cons_succ]
                    refine wpAnyH_take (i := 37) (oi := ⟨some 85, _, _, _, _, _⟩) (v := ?_) rfl (by kernel_rfl) (by kernel_rfl) (by kernel_rfl) (fun _ _ _ h => h) (Or.inl ⟨by rfl, ?_⟩) (by assumption) ?_
                    rotate_left
                    · intro w_ hSw; (try dsimp only at hSw); go_simp <;> with_reducible rfl
                    simp only [Act.put, List.setIfInBounds_toArray, List.set_cons_zero, List.set_cons_succ]
                    refine wpAnyH_take (i := 38) (oi := ⟨some 86, _, _, _, _, _⟩) (v := ?_) rfl (by kernel_rfl) (by kernel_rfl) (by kernel_rfl) (fun _ _ _ h => h) (Or.inl ⟨by rfl, ?_⟩) (by assumption) ?_
                    rotate_left
                    · intro w_ hSw; (try dsimp only at hSw); go_simp <;> with_reducible rfl
                    simp only [Act.put, List.setIfInBounds_toArray, List.set_cons_zero, List.set_cons_succ]
                    refine wpAnyH_take (i := 39) (oi := ⟨some 0, _, _, _, _, _⟩) (v := ?_) rfl (by kernel_rfl) (by kernel_rfl) (by kernel_rfl) (fun _ _ _ h => h) (Or.inl ⟨by rfl, ?_⟩) (by assumption) ?_
                    rotate_left
                    · intro w_ hSw; (try dsimp only at hSw); go_simp <;> with_reducible rfl
                    simp only [Act.put, List.setIfInBounds_toArray, List.set_cons_zero]
                    refine wpAnyH_done (by kernel_rfl) ?_ _
                    have HF := Lib.hid hHeld.2.2
                    clear hHeld
                    go_wp2_with fail
                    go_ret
                    exact ⟨by first | rfl | simp, HF.out⟩
                  exact AllReadyH.nil
                exact AllReadyH.nil
              exact AllReadyH.nil
            exact AllReadyH.nil
          exact AllReadyH.nil

end Go.Proofs.Yteioefgckigbcaa
