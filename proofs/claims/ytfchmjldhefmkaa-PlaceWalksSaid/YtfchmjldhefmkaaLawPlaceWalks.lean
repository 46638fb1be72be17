/-
  linesidelaw14: PlaceWalks.
-/
import Derived.Test.YtfchmjldhefmkaaLawAwake14

import Derived.BigQuiet

import Derived.IntWalk

namespace Go.Proofs.Ytfchmjldhefmkaa

open Go.RowKit

open Go.Great

set_option maxRecDepth 100000 in
set_option maxHeartbeats 8000000 in
theorem placeWalks_walk (t : Tp3) (a : TpA) (p : Ps3) (id m : Int) (w : World) (ht : TopR w t a) (hcj : t.joints.length ≤ a.cj) (_ : (Lit.int .i64 id).wf = true) (hwm : (Lit.int .i64 m).wf = true) :
    Calls Try.prog 3 #[.agg (tpC t a), .agg (psA p), .int .i64 id, .int .i64 m] w fun e w' => e = .returned (.bool true) ∧ Below w.heap.size w w' := by
  obtain ⟨wa, hwa⟩ : ∃ wa, (w.alloc (.cells (tpC t a) 27)).alloc (.cells (psA p) 29) = wa := ⟨_, rfl⟩
  have hbwa : Below w.heap.size w wa := by rw [← hwa]; exact ((Below.refl _ _).alloc (Nat.le_refl _) _).alloc (by simp) _
  have h0 : Has wa (w.heap.size) 27 (tpC t a) := by rw [← hwa]; exact ((Has.made _ _ _).beside _)
  have h1 : Has wa (w.heap.size + 1) 29 (psA p) := by rw [← hwa]; exact (has_at11 (by simp))
  have HWA := Lib.hid hwa; have HBWA := Lib.hid hbwa
  have HT := Lib.hid (fun W (hW : Below w.heap.size w W) => ht.under hW)
  have HCJ := Lib.hid hcj
  have HG0 := Lib.hid h0
  have HG1 := Lib.hid h1
  clear hwa hbwa hcj ht h0 h1
  have HMB := Lib.hid (int_bounds11 hwm)
  clear hwm
  obtain ⟨q, hq⟩ : ∃ q, lightT t = q := ⟨_, rfl⟩
  have HQ := Lib.hid hq
  clear hq
  go_enter Try.func3, Try.ntmps3
  go_upto_region 1 with fail
  rw [HWA.out]
  clear HWA
  go_wp2_with fail
  refine (awake14_any wa).mono ?_
  rintro e w1 ⟨rfl, hb⟩
  have HB := HBWA
  clear HBWA
  have HB := Lib.hid (HB.out.trans (hb.mono HB.out.size))
  have HG0 := Lib.hid (HG0.out.under hb HG0.out.lt)
  have HG1 := Lib.hid (HG1.out.under hb HG1.out.lt)
  clear hb
  go_wp2_with (with_reducible refine wpList_load_row (o := ⟨some 20, _, _, _, _, _⟩) rfl 27 _ rfl (w.heap.size) rfl 27 (tpC t a) (0, 0) _ (HG0.out).raw11 Try.underlying27 rfl (by kernel_rfl) ?_)
  refine (rlight_any13 t a w1 (HT.out _ HB.out)).mono ?_
  rw [HQ.out]
  rintro e w2 ⟨rfl, hb⟩
  have HB := Lib.hid (HB.out.trans (hb.mono HB.out.size))
  have HG0 := Lib.hid (HG0.out.under hb HG0.out.lt)
  have HG1 := Lib.hid (HG1.out.under hb HG1.out.lt)
  clear hb
  cases q with
  | false =>
    go_wp2
    go_ret
    exact ⟨by first | rfl | simp, HB.out⟩
  | true =>
    go_upto_region 5 with fail
    obtain ⟨rP, hrP⟩ : ∃ r, (walkE t p m).1 = r := ⟨_, rfl⟩
    obtain ⟨rE, hrE⟩ : ∃ r, (walkE t p m).2 = r := ⟨_, rfl⟩
    obtain ⟨sP, hsP⟩ : ∃ r, (locE t id p.rev m).1 = r := ⟨_, rfl⟩
    obtain ⟨sE, hsE⟩ : ∃ r, (locE t id p.rev m).2 = r := ⟨_, rfl⟩
    have HR := Lib.hid (Prod.ext hrP hrE : walkE t p m = (rP, rE))
    have HS := Lib.hid (Prod.ext hsP hsE : locE t id p.rev m = (sP, sE))
    clear hrP hrE hsP hsE
    have hk := opl_walk t a p m w2 (HT.out _ HB.out) HQ.out HCJ.out HMB.out
    rw [HR.out] at hk
    have HK := Lib.hid hk
    clear hk
    go_wp2_with (first | (with_reducible refine wpList_load_row (o := ⟨some 30, _, _, _, _, _⟩) rfl 27 _ rfl (w.heap.size) rfl 27 (tpC t a) (0, 0) _ (HG0.out).raw11 Try.underlying27 rfl (by kernel_rfl) ?_) | (with_reducible refine wpList_load_row (o := ⟨some 31, _, _, _, _, _⟩) rfl 29 _ rfl (w.heap.size + 1) rfl 29 (psA p) (0, 0) _ (HG1.out).raw11 Try.underlying29 rfl (by kernel_rfl) ?_))
    refine HK.out.mono ?_
    rintro e x1 ⟨rfl, hb⟩
    clear HK
    have hm : Has (x1.alloc (.cells #[.int .i64 0, .int .i64 0, .bool false] 29)) x1.heap.size 29 #[.int .i64 0, .int .i64 0, .bool false] := Has.made _ _ _
    have HM := Lib.hid hm
    obtain ⟨u1, hu1⟩ : ∃ u_, (x1.alloc (.cells #[.int .i64 0, .int .i64 0, .bool false] 29)).setRow x1.heap.size (psA rP) = u_ := ⟨_, rfl⟩
    have hbu : Below x1.heap.size x1 u1 := by rw [← hu1]; exact below_row (g := x1.heap.size) ((Below.refl _ _).alloc (Nat.le_refl _) _) (Nat.le_refl _) _
    have HX1 := Lib.hid (show Has u1 x1.heap.size 29 (psA rP) from by rw [← hu1]; exact has_row11 hm _)
    have hstep := hb.trans (hbu.mono hb.size)
    have HB := Lib.hid (HB.out.trans (hstep.mono HB.out.size))
    have HG0 := Lib.hid (HG0.out.under hstep HG0.out.lt)
    have HG1 := Lib.hid (HG1.out.under hstep HG1.out.lt)
    have HUU := Lib.hid hu1
    clear hm hbu hb hstep hu1
    go_upto_region 6 with (with_reducible refine wpList_store_rowTo (o := ⟨none, _, _, _, _, _⟩) rfl 29 _ _ rfl rfl (x1.heap.size) (psA rP) rfl rfl 29 _ (HM.out).raw11 (by kernel_rfl) (by kernel_rfl) (by kernel_rfl) ?_)
    rw [HUU.out]
    clear HUU HM
    have hk := rwalk_any t a p m u1 (HT.out _ HB.out) HQ.out HCJ.out
    rw [HR.out] at hk
    have HK := Lib.hid hk
    clear hk
    go_wp2_with (first | (with_reducible refine wpList_load_row (o := ⟨some 37, _, _, _, _, _⟩) rfl 27 _ rfl (w.heap.size) rfl 27 (tpC t a) (0, 0) _ (HG0.out).raw11 Try.underlying27 rfl (by kernel_rfl) ?_) | (with_reducible refine wpList_load_row (o := ⟨some 38, _, _, _, _, _⟩) rfl 29 _ rfl (w.heap.size + 1) rfl 29 (psA p) (0, 0) _ (HG1.out).raw11 Try.underlying29 rfl (by kernel_rfl) ?_))
    refine HK.out.mono ?_
    rintro e x2 ⟨rfl, hb⟩
    clear HK
    have hm : Has (x2.alloc (.cells #[.int .i64 0, .int .i64 0, .bool false] 29)) x2.heap.size 29 #[.int .i64 0, .int .i64 0, .bool false] := Has.made _ _ _
    have HM := Lib.hid hm
    obtain ⟨u2, hu2⟩ : ∃ u_, (x2.alloc (.cells #[.int .i64 0, .int .i64 0, .bool false] 29)).setRow x2.heap.size (psA rP) = u_ := ⟨_, rfl⟩
    have hbu : Below x2.heap.size x2 u2 := by rw [← hu2]; exact below_row (g := x2.heap.size) ((Below.refl _ _).alloc (Nat.le_refl _) _) (Nat.le_refl _) _
    have HX2 := Lib.hid (show Has u2 x2.heap.size 29 (psA rP) from by rw [← hu2]; exact has_row11 hm _)
    have hstep := hb.trans (hbu.mono hb.size)
    have HB := Lib.hid (HB.out.trans (hstep.mono HB.out.size))
    have HG0 := Lib.hid (HG0.out.under hstep HG0.out.lt)
    have HG1 := Lib.hid (HG1.out.under hstep HG1.out.lt)
    have HX1 := Lib.hid (HX1.out.under hstep HX1.out.lt)
    have HUU := Lib.hid hu2
    clear hm hbu hb hstep hu2
    go_upto_region 7 with (with_reducible refine wpList_store_rowTo (o := ⟨none, _, _, _, _, _⟩) rfl 29 _ _ rfl rfl (x2.heap.size) (psA rP) rfl rfl 29 _ (HM.out).raw11 (by kernel_rfl) (by kernel_rfl) (by kernel_rfl) ?_)
    rw [HUU.out]
    clear HUU HM
    have hk := opl_locate t a id p.rev m u2 (HT.out _ HB.out) HQ.out HCJ.out HMB.out
    rw [HS.out] at hk
    have HK := Lib.hid hk
    clear hk
    have d2 : u2.cell? ⟨w.heap.size + 1, 2, none⟩ = some (.bool p.rev) := HG1.out.cell 2
    go_wp2_with (with_reducible refine wpList_load_row (o := ⟨some 44, _, _, _, _, _⟩) rfl 27 _ rfl (w.heap.size) rfl 27 (tpC t a) (0, 0) _ (HG0.out).raw11 Try.underlying27 rfl (by kernel_rfl) ?_)
    refine HK.out.mono ?_
    rintro e x3 ⟨rfl, hb⟩
    clear HK d2
    have hm : Has (x3.alloc (.cells #[.int .i64 0, .int .i64 0, .bool false] 29)) x3.heap.size 29 #[.int .i64 0, .int .i64 0, .bool false] := Has.made _ _ _
    have HM := Lib.hid hm
    obtain ⟨u3, hu3⟩ : ∃ u_, (x3.alloc (.cells #[.int .i64 0, .int .i64 0, .bool false] 29)).setRow x3.heap.size (psA sP) = u_ := ⟨_, rfl⟩
    have hbu : Below x3.heap.size x3 u3 := by rw [← hu3]; exact below_row (g := x3.heap.size) ((Below.refl _ _).alloc (Nat.le_refl _) _) (Nat.le_refl _) _
    have HX3 := Lib.hid (show Has u3 x3.heap.size 29 (psA sP) from by rw [← hu3]; exact has_row11 hm _)
    have hstep := hb.trans (hbu.mono hb.size)
    have HB := Lib.hid (HB.out.trans (hstep.mono HB.out.size))
    have HG0 := Lib.hid (HG0.out.under hstep HG0.out.lt)
    have HG1 := Lib.hid (HG1.out.under hstep HG1.out.lt)
    have HX1 := Lib.hid (HX1.out.under hstep HX1.out.lt)
    have HX2 := Lib.hid (HX2.out.under hstep HX2.out.lt)
    have HUU := Lib.hid hu3
    clear hm hbu hb hstep hu3
    go_upto_region 8 with (with_reducible refine wpList_store_rowTo (o := ⟨none, _, _, _, _, _⟩) rfl 29 _ _ rfl rfl (x3.heap.size) (psA sP) rfl rfl 29 _ (HM.out).raw11 (by kernel_rfl) (by kernel_rfl) (by kernel_rfl) ?_)
    rw [HUU.out]
    clear HUU HM
    have hk := rlocate_any t a id p.rev m u3 (HT.out _ HB.out) HQ.out HCJ.out
    rw [HS.out] at hk
    have HK := Lib.hid hk
    clear hk
    have d2 : u3.cell? ⟨w.heap.size + 1, 2, none⟩ = some (.bool p.rev) := HG1.out.cell 2
    go_wp2_with (with_reducible refine wpList_load_row (o := ⟨some 53, _, _, _, _, _⟩) rfl 27 _ rfl (w.heap.size) rfl 27 (tpC t a) (0, 0) _ (HG0.out).raw11 Try.underlying27 rfl (by kernel_rfl) ?_)
    refine HK.out.mono ?_
    rintro e x4 ⟨rfl, hb⟩
    clear HK d2
    have hm : Has (x4.alloc (.cells #[.int .i64 0, .int .i64 0, .bool false] 29)) x4.heap.size 29 #[.int .i64 0, .int .i64 0, .bool false] := Has.made _ _ _
    have HM := Lib.hid hm
    obtain ⟨u4, hu4⟩ : ∃ u_, (x4.alloc (.cells #[.int .i64 0, .int .i64 0, .bool false] 29)).setRow x4.heap.size (psA sP) = u_ := ⟨_, rfl⟩
    have hbu : Below x4.heap.size x4 u4 := by rw [← hu4]; exact below_row (g := x4.heap.size) ((Below.refl _ _).alloc (Nat.le_refl _) _) (Nat.le_refl _) _
    have HX4 := Lib.hid (show Has u4 x4.heap.size 29 (psA sP) from by rw [← hu4]; exact has_row11 hm _)
    have hstep := hb.trans (hbu.mono hb.size)
    have HB := Lib.hid (HB.out.trans (hstep.mono HB.out.size))
    have HG0 := Lib.hid (HG0.out.under hstep HG0.out.lt)
    have HG1 := Lib.hid (HG1.out.under hstep HG1.out.lt)
    have HX1 := Lib.hid (HX1.out.under hstep HX1.out.lt)
    have HX2 := Lib.hid (HX2.out.under hstep HX2.out.lt)
    have HX3 := Lib.hid (HX3.out.under hstep HX3.out.lt)
    have HUU := Lib.hid hu4
    clear hm hbu hb hstep hu4
    go_upto_region 9 with (with_reducible refine wpList_store_rowTo (o := ⟨none, _, _, _, _, _⟩) rfl 29 _ _ rfl rfl (x4.heap.size) (psA sP) rfl rfl 29 _ (HM.out).raw11 (by kernel_rfl) (by kernel_rfl) (by kernel_rfl) ?_)
    rw [HUU.out]
    clear HUU HM
    obtain ⟨b, hb⟩ : ∃ b, rightP t p = b := ⟨_, rfl⟩
    have HRB := Lib.hid hb
    clear hb
    obtain ⟨g1, hg1⟩ : ∃ g, x1.heap.size = g := ⟨_, rfl⟩
    obtain ⟨g2, hg2⟩ : ∃ g, x2.heap.size = g := ⟨_, rfl⟩
    obtain ⟨g3, hg3⟩ : ∃ g, x3.heap.size = g := ⟨_, rfl⟩
    obtain ⟨g4, hg4⟩ : ∃ g, x4.heap.size = g := ⟨_, rfl⟩
    rw [hg1] at HX1
    rw [hg2] at HX2
    rw [hg3] at HX3
    rw [hg4] at HX4
    simp only [hg1, hg2, hg3, hg4]
    clear hg1 hg2 hg3 hg4
    have qr : ∀ W, (binOp .eql 29 (.agg (psA rP)) (.agg (psA rP))).run Try.prog W = .ok (.bool true) W := fun W => by rw [eql_ps14, (eqP_iff rP rP).2 rfl]
    have qs : ∀ W, (binOp .eql 29 (.agg (psA sP)) (.agg (psA sP))).run Try.prog W = .ok (.bool true) W := fun W => by rw [eql_ps14, (eqP_iff sP sP).2 rfl]
    have qt : ∀ W, (binOp .eql 29 (.agg (psA (turnP p))) (.agg (psA (turnP p)))).run Try.prog W = .ok (.bool true) W := fun W => by rw [eql_ps14, (eqP_iff _ _).2 rfl]
    skip
    refine wp_region_held_drew (S := (fun W_ => Has W_ (w.heap.size) 27 (tpC t a) ∧ Has W_ (w.heap.size + 1) 29 (psA p) ∧ Has W_ (g1) 29 (psA rP) ∧ Has W_ (g2) 29 (psA rP) ∧ Has W_ (g3) 29 (psA sP) ∧ Has W_ (g4) 29 (psA sP) ∧ Below w.heap.size w W_)) (by kernel_rfl) ?_ (fun hHeld => ?_)
    · exact ⟨HG0.out.draw, HG1.out.draw, HX1.out.draw, HX2.out.draw, HX3.out.draw, HX4.out.draw, below_dr11 HB.out⟩
    refine wpAnyH_take (i := 0) (oi := ⟨some 61, _, _, _, _, _⟩) (v := .agg (psA rP)) rfl (by kernel_rfl) (by kernel_rfl) (by kernel_rfl) (fun _ _ _ h => h) (yields_load_row11 29 _ rfl (g1) rfl 29 (psA rP) _ (fun _ ⟨_, _, h_, _, _, _, _⟩ => h_) Try.underlying29 rfl (by kernel_rfl) (by rfl)) (by assumption) ?_
    simp only [Act.put, List.setIfInBounds_toArray, List.set_cons_zero, List.set_cons_succ]
    refine wpAnyH_take (i := 1) (oi := ⟨some 62, _, _, _, _, _⟩) (v := .agg (psA rP)) rfl (by kernel_rfl) (by kernel_rfl) (by kernel_rfl) (fun _ _ _ h => h) (yields_load_row11 29 _ rfl (g2) rfl 29 (psA rP) _ (fun _ ⟨_, _, _, h_, _, _, _⟩ => h_) Try.underlying29 rfl (by kernel_rfl) (by rfl)) (by assumption) ?_
    simp only [Act.put, List.setIfInBounds_toArray, List.set_cons_zero, List.set_cons_succ]
    refine wpAnyH_take (i := 2) (oi := ⟨some 63, _, _, _, _, _⟩) (v := .bool true) rfl (by kernel_rfl) (by kernel_rfl) (by kernel_rfl) (fun _ _ _ h => h) (yields_aggCmp11 .eql 29 _ _ _ rfl _ _ rfl rfl plain_ps14 _ qr (by rfl)) (by assumption) ?_
    simp only [Act.put, List.setIfInBounds_toArray, List.set_cons_zero, List.set_cons_succ]
    refine wpAnyH_take (i := 3) (oi := ⟨some 64, _, _, _, _, _⟩) (v := ?_) rfl (by kernel_rfl) (by kernel_rfl) (by kernel_rfl) (fun _ _ _ h => h) (Or.inl ⟨by rfl, ?_⟩) (by assumption) ?_
    rotate_left
    · intro w_ hSw; (try dsimp only at hSw); go_simp <;> with_reducible rfl
    simp only [Act.put, List.setIfInBounds_toArray, List.set_cons_zero, List.set_cons_succ]
    refine wpAnyH_take (i := 4) (oi := ⟨some 65, _, _, _, _, _⟩) (v := ?_) rfl (by kernel_rfl) (by kernel_rfl) (by kernel_rfl) (fun _ _ _ h => h) (Or.inl ⟨by rfl, ?_⟩) (by assumption) ?_
    rotate_left
    · intro w_ hSw; (try dsimp only at hSw); go_simp <;> with_reducible rfl
    simp only [Act.put, List.setIfInBounds_toArray, List.set_cons_zero, List.set_cons_succ]
    refine wpAnyH_take (i := 5) (oi := ⟨some 66, _, _, _, _, _⟩) (v := ?_) rfl (by kernel_rfl) (by kernel_rfl) (by kernel_rfl) (fun _ _ _ h => h) (Or.inl ⟨by rfl, ?_⟩) (by assumption) ?_
    rotate_left
    · intro w_ hSw; (try dsimp only at hSw); go_simp <;> with_reducible rfl
    simp only [Act.put, List.setIfInBounds_toArray, List.set_cons_zero, List.set_cons_succ]
    refine wpAnyH_take (i := 6) (oi := ⟨some 67, _, _, _, _, _⟩) (v := ?_) rfl (by kernel_rfl) (by kernel_rfl) (by kernel_rfl) (fun _ _ _ h => h) (Or.inl ⟨by rfl, ?_⟩) (by assumption) ?_
    rotate_left
    · intro w_ hSw; (try dsimp only at hSw); go_simp <;> with_reducible rfl
    simp only [Act.put, List.setIfInBounds_toArray, List.set_cons_zero, List.set_cons_succ]
    refine wpAnyH_take (i := 7) (oi := ⟨some 68, _, _, _, _, _⟩) (v := ?_) rfl (by kernel_rfl) (by kernel_rfl) (by kernel_rfl) (fun _ _ _ h => h) (Or.inl ⟨by rfl, ?_⟩) (by assumption) ?_
    rotate_left
    · intro w_ hSw; (try dsimp only at hSw); go_simp <;> with_reducible rfl
    simp only [Act.put, List.setIfInBounds_toArray, List.set_cons_zero, List.set_cons_succ]
    refine wpAnyH_take (i := 8) (oi := ⟨some 69, _, _, _, _, _⟩) (v := ?_) rfl (by kernel_rfl) (by kernel_rfl) (by kernel_rfl) (fun _ _ _ h => h) (Or.inl ⟨by rfl, ?_⟩) (by assumption) ?_
    rotate_left
    · intro w_ hSw; (try dsimp only at hSw); go_simp <;> with_reducible rfl
    simp only [Act.put, List.setIfInBounds_toArray, List.set_cons_zero, List.set_cons_succ]
    refine wpAnyH_take (i := 9) (oi := ⟨some 70, _, _, _, _, _⟩) (v := .agg (psA sP)) rfl (by kernel_rfl) (by kernel_rfl) (by kernel_rfl) (fun _ _ _ h => h) (yields_load_row11 29 _ rfl (g3) rfl 29 (psA sP) _ (fun _ ⟨_, _, _, _, h_, _, _⟩ => h_) Try.underlying29 rfl (by kernel_rfl) (by rfl)) (by assumption) ?_
    simp only [Act.put, List.setIfInBounds_toArray, List.set_cons_zero, List.set_cons_succ]
    refine wpAnyH_take (i := 10) (oi := ⟨some 71, _, _, _, _, _⟩) (v := .agg (psA sP)) rfl (by kernel_rfl) (by kernel_rfl) (by kernel_rfl) (fun _ _ _ h => h) (yields_load_row11 29 _ rfl (g4) rfl 29 (psA sP) _ (fun _ ⟨_, _, _, _, _, h_, _⟩ => h_) Try.underlying29 rfl (by kernel_rfl) (by rfl)) (by assumption) ?_
    simp only [Act.put, List.setIfInBounds_toArray, List.set_cons_zero, List.set_cons_succ]
    refine wpAnyH_take (i := 11) (oi := ⟨some 72, _, _, _, _, _⟩) (v := .bool true) rfl (by kernel_rfl) (by kernel_rfl) (by kernel_rfl) (fun _ _ _ h => h) (yields_aggCmp11 .eql 29 _ _ _ rfl _ _ rfl rfl plain_ps14 _ qs (by rfl)) (by assumption) ?_
    simp only [Act.put, List.setIfInBounds_toArray, List.set_cons_zero, List.set_cons_succ]
    refine wpAnyH_take (i := 12) (oi := ⟨some 73, _, _, _, _, _⟩) (v := ?_) rfl (by kernel_rfl) (by kernel_rfl) (by kernel_rfl) (fun _ _ _ h => h) (Or.inl ⟨by rfl, ?_⟩) (by assumption) ?_
    rotate_left
    · intro w_ hSw; (try dsimp only at hSw); go_simp <;> with_reducible rfl
    simp only [Act.put, List.setIfInBounds_toArray, List.set_cons_zero, List.set_cons_succ]
    refine wpAnyH_take (i := 13) (oi := ⟨some 74, _, _, _, _, _⟩) (v := ?_) rfl (by kernel_rfl) (by kernel_rfl) (by kernel_rfl) (fun _ _ _ h => h) (Or.inl ⟨by rfl, ?_⟩) (by assumption) ?_
    rotate_left
    · intro w_ hSw; (try dsimp only at hSw); go_simp <;> with_reducible rfl
    simp only [Act.put, List.setIfInBounds_toArray, List.set_cons_zero, List.set_cons_succ]
    refine wpAnyH_take (i := 14) (oi := ⟨some 75, _, _, _, _, _⟩) (v := ?_) rfl (by kernel_rfl) (by kernel_rfl) (by kernel_rfl) (fun _ _ _ h => h) (Or.inl ⟨by rfl, ?_⟩) (by assumption) ?_
    rotate_left
    · intro w_ hSw; (try dsimp only at hSw); go_simp <;> with_reducible rfl
    simp only [Act.put, List.setIfInBounds_toArray, List.set_cons_zero, List.set_cons_succ]
    refine wpAnyH_take (i := 15) (oi := ⟨some 76, _, _, _, _, _⟩) (v := ?_) rfl (by kernel_rfl) (by kernel_rfl) (by kernel_rfl) (fun _ _ _ h => h) (Or.inl ⟨by rfl, ?_⟩) (by assumption) ?_
    rotate_left
    · intro w_ hSw; (try dsimp only at hSw); go_simp <;> with_reducible rfl
    simp only [Act.put, List.setIfInBounds_toArray, List.set_cons_zero, List.set_cons_succ]
    refine wpAnyH_take (i := 16) (oi := ⟨some 77, _, _, _, _, _⟩) (v := ?_) rfl (by kernel_rfl) (by kernel_rfl) (by kernel_rfl) (fun _ _ _ h => h) (Or.inl ⟨by rfl, ?_⟩) (by assumption) ?_
    rotate_left
    · intro w_ hSw; (try dsimp only at hSw); go_simp <;> with_reducible rfl
    simp only [Act.put, List.setIfInBounds_toArray, List.set_cons_zero, List.set_cons_succ]
    refine wpAnyH_take (i := 17) (oi := ⟨some 78, _, _, _, _, _⟩) (v := ?_) rfl (by kernel_rfl) (by kernel_rfl) (by kernel_rfl) (fun _ _ _ h => h) (Or.inl ⟨by rfl, ?_⟩) (by assumption) ?_
    rotate_left
    · intro w_ hSw; (try dsimp only at hSw); go_simp <;> with_reducible rfl
    simp only [Act.put, List.setIfInBounds_toArray, List.set_cons_zero, List.set_cons_succ]
    refine wpAnyH_take (i := 18) (oi := ⟨some 79, _, _, _, _, _⟩) (v := ?_) rfl (by kernel_rfl) (by kernel_rfl) (by kernel_rfl) (fun _ _ _ h => h) (Or.inl ⟨by rfl, ?_⟩) (by assumption) ?_
    rotate_left
    · intro w_ hSw; (try dsimp only at hSw); go_simp <;> with_reducible rfl
    simp only [Act.put, List.setIfInBounds_toArray, List.set_cons_zero, List.set_cons_succ]
    refine wpAnyH_take (i := 19) (oi := ⟨some 80, _, _, _, _, _⟩) (v := .agg (tpC t a)) rfl (by kernel_rfl) (by kernel_rfl) (by kernel_rfl) (fun _ _ _ h => h) (yields_load_row11 27 _ rfl (w.heap.size) rfl 27 (tpC t a) _ (fun _ ⟨h_, _, _, _, _, _, _⟩ => h_) Try.underlying27 rfl (by kernel_rfl) (by rfl)) (by assumption) ?_
    simp only [Act.put, List.setIfInBounds_toArray, List.set_cons_zero, List.set_cons_succ]
    refine wpAnyH_take (i := 20) (oi := ⟨some 81, _, _, _, _, _⟩) (v := .agg (psA p)) rfl (by kernel_rfl) (by kernel_rfl) (by kernel_rfl) (fun _ _ _ h => h) (yields_load_row11 29 _ rfl (w.heap.size + 1) rfl 29 (psA p) _ (fun _ ⟨_, h_, _, _, _, _, _⟩ => h_) Try.underlying29 rfl (by kernel_rfl) (by rfl)) (by assumption) ?_
    simp only [Act.put, List.setIfInBounds_toArray, List.set_cons_zero, List.set_cons_succ]
    refine wpAnyH_take (i := 22) (oi := ⟨some 83, _, _, _, _, _⟩) (v := .agg (tpC t a)) rfl (by kernel_rfl) (by kernel_rfl) (by kernel_rfl) (fun _ _ _ h => h) (yields_load_row11 27 _ rfl (w.heap.size) rfl 27 (tpC t a) _ (fun _ ⟨h_, _, _, _, _, _, _⟩ => h_) Try.underlying27 rfl (by kernel_rfl) (by rfl)) (by assumption) ?_
    simp only [Act.put, List.setIfInBounds_toArray, List.set_cons_zero, List.set_cons_succ]
    refine wpAnyH_take (i := 23) (oi := ⟨some 84, _, _, _, _, _⟩) (v := .agg (psA p)) rfl (by kernel_rfl) (by kernel_rfl) (by kernel_rfl) (fun _ _ _ h => h) (yields_load_row11 29 _ rfl (w.heap.size + 1) rfl 29 (psA p) _ (fun _ ⟨_, h_, _, _, _, _, _⟩ => h_) Try.underlying29 rfl (by kernel_rfl) (by rfl)) (by assumption) ?_
    simp only [Act.put, List.setIfInBounds_toArray, List.set_cons_zero, List.set_cons_succ]
    refine wpAnyH_ready (rs := [21]) (by kernel_rfl) (by simp) ?_
    refine AllReadyH.cons (o := ⟨some 82, _, _, _, _, _⟩) rfl (fun K hK => ?_) ?_
    · go_simp
      obtain ⟨s0, s1, s2, s3, s4, s5, s6⟩ := hHeld
      have hk_ := opl_right t a p _ (HT.out _ s6) HQ.out HCJ.out
      rw [HRB.out] at hk_
      refine hk_.mono ?_
      clear hk_
      rintro e_ vs ⟨rfl, hbs⟩
      go_wp2_with fail
      refine hK.out _ _ ?_ (fun hHeld => ?_)
      · exact ⟨s0.under hbs s0.lt, s1.under hbs s1.lt, s2.under hbs s2.lt, s3.under hbs s3.lt, s4.under hbs s4.lt, s5.under hbs s5.lt, s6.trans (hbs.mono s6.size)⟩
      clear hK K s0 s1 s2 s3 s4 s5 s6
      try simp only [Act.put, List.setIfInBounds_toArray, List.set_cons_zero, List.set_cons_succ]
      refine wpAnyH_ready (rs := [24]) (by kernel_rfl) (by simp) ?_
      refine AllReadyH.cons (o := ⟨some 85, _, _, _, _, _⟩) rfl (fun K hK => ?_) ?_
      · go_simp
        obtain ⟨s0, s1, s2, s3, s4, s5, s6⟩ := hHeld
        have hk_ := rright_any t a p _ (HT.out _ s6) HQ.out HCJ.out
        rw [HRB.out] at hk_
        refine hk_.mono ?_
        clear hk_
        rintro e_ vs ⟨rfl, hbs⟩
        go_wp2_with fail
        refine hK.out _ _ ?_ (fun hHeld => ?_)
        · exact ⟨s0.under hbs s0.lt, s1.under hbs s1.lt, s2.under hbs s2.lt, s3.under hbs s3.lt, s4.under hbs s4.lt, s5.under hbs s5.lt, s6.trans (hbs.mono s6.size)⟩
        clear hK K s0 s1 s2 s3 s4 s5 s6
        try simp only [Act.put, List.setIfInBounds_toArray, List.set_cons_zero, List.set_cons_succ]
        refine wpAnyH_take (i := 25) (oi := ⟨some 86, _, _, _, _, _⟩) (v := ?_) rfl (by kernel_rfl) (by kernel_rfl) (by kernel_rfl) (fun _ _ _ h => h) (Or.inl ⟨by rfl, ?_⟩) (by assumption) ?_
        rotate_left
        · intro w_ hSw; (try dsimp only at hSw); go_simp <;> with_reducible rfl
        simp only [Act.put, List.setIfInBounds_toArray, List.set_cons_zero, List.set_cons_succ]
        refine wpAnyH_take (i := 26) (oi := ⟨some 87, _, _, _, _, _⟩) (v := ?_) rfl (by kernel_rfl) (by kernel_rfl) (by kernel_rfl) (fun _ _ _ h => h) (Or.inl ⟨by rfl, ?_⟩) (by assumption) ?_
        rotate_left
        · intro w_ hSw; (try dsimp only at hSw); go_simp <;> with_reducible rfl
        simp only [Act.put, List.setIfInBounds_toArray, List.set_cons_zero, List.set_cons_succ]
        refine wpAnyH_take (i := 27) (oi := ⟨some 88, _, _, _, _, _⟩) (v := ?_) rfl (by kernel_rfl) (by kernel_rfl) (by kernel_rfl) (fun _ _ _ h => h) (Or.inl ⟨by rfl, ?_⟩) (by assumption) ?_
        rotate_left
        · intro w_ hSw; (try dsimp only at hSw); go_simp <;> with_reducible rfl
        simp only [Act.put, List.setIfInBounds_toArray, List.set_cons_zero, List.set_cons_succ]
        refine wpAnyH_take (i := 28) (oi := ⟨some 89, _, _, _, _, _⟩) (v := .agg (psA p)) rfl (by kernel_rfl) (by kernel_rfl) (by kernel_rfl) (fun _ _ _ h => h) (yields_load_row11 29 _ rfl (w.heap.size + 1) rfl 29 (psA p) _ (fun _ ⟨_, h_, _, _, _, _, _⟩ => h_) Try.underlying29 rfl (by kernel_rfl) (by rfl)) (by assumption) ?_
        simp only [Act.put, List.setIfInBounds_toArray, List.set_cons_zero, List.set_cons_succ]
        refine wpAnyH_take (i := 30) (oi := ⟨some 91, _, _, _, _, _⟩) (v := .agg (psA p)) rfl (by kernel_rfl) (by kernel_rfl) (by kernel_rfl) (fun _ _ _ h => h) (yields_load_row11 29 _ rfl (w.heap.size + 1) rfl 29 (psA p) _ (fun _ ⟨_, h_, _, _, _, _, _⟩ => h_) Try.underlying29 rfl (by kernel_rfl) (by rfl)) (by assumption) ?_
        simp only [Act.put, List.setIfInBounds_toArray, List.set_cons_zero, List.set_cons_succ]
        refine wpAnyH_ready (rs := [29]) (by kernel_rfl) (by simp) ?_
        refine AllReadyH.cons (o := ⟨some 90, _, _, _, _, _⟩) rfl (fun K hK => ?_) ?_
        · go_simp
          obtain ⟨s0, s1, s2, s3, s4, s5, s6⟩ := hHeld
          refine (opl_turn p _).mono ?_
          rintro e_ vs ⟨rfl, hbs⟩
          go_wp2_with fail
          refine hK.out _ _ ?_ (fun hHeld => ?_)
          · exact ⟨s0.under hbs s0.lt, s1.under hbs s1.lt, s2.under hbs s2.lt, s3.under hbs s3.lt, s4.under hbs s4.lt, s5.under hbs s5.lt, s6.trans (hbs.mono s6.size)⟩
          clear hK K s0 s1 s2 s3 s4 s5 s6
          try simp only [Act.put, List.setIfInBounds_toArray, List.set_cons_zero, List.set_cons_succ]
          refine wpAnyH_ready (rs := [31]) (by kernel_rfl) (by simp) ?_
          refine AllReadyH.cons (o := ⟨some 92, _, _, _, _, _⟩) rfl (fun K hK => ?_) ?_
          · go_simp
            obtain ⟨s0, s1, s2, s3, s4, s5, s6⟩ := hHeld
            refine (rturn_any p _).mono ?_
            rintro e_ vs ⟨rfl, hbs⟩
            go_wp2_with fail
            refine hK.out _ _ ?_ (fun hHeld => ?_)
            · exact ⟨s0.under hbs s0.lt, s1.under hbs s1.lt, s2.under hbs s2.lt, s3.under hbs s3.lt, s4.under hbs s4.lt, s5.under hbs s5.lt, s6.trans (hbs.mono s6.size)⟩
            clear hK K s0 s1 s2 s3 s4 s5 s6
            try simp only [Act.put, List.setIfInBounds_toArray, List.set_cons_zero, List.set_cons_succ]
            refine wpAnyH_take (i := 32) (oi := ⟨some 93, _, _, _, _, _⟩) (v := .bool true) rfl (by kernel_rfl) (by kernel_rfl) (by kernel_rfl) (fun _ _ _ h => h) (yields_aggCmp11 .eql 29 _ _ _ rfl _ _ rfl rfl plain_ps14 _ qt (by rfl)) (by assumption) ?_
            simp only [Act.put, List.setIfInBounds_toArray, List.set_cons_zero, List.set_cons_succ]
            refine wpAnyH_take (i := 33) (oi := ⟨some 94, _, _, _, _, _⟩) (v := ?_) rfl (by kernel_rfl) (by kernel_rfl) (by kernel_rfl) (fun _ _ _ h => h) (Or.inl ⟨by rfl, ?_⟩) (by assumption) ?_
            rotate_left
            · intro w_ hSw; (try dsimp only at hSw); go_simp <;> with_reducible rfl
            simp only [Act.put, List.setIfInBounds_toArray, List.set_cons_zero, List.set_cons_succ]
            refine wpAnyH_take (i := 34) (oi := ⟨some 8, _, _, _, _, _⟩) (v := ?_) rfl (by kernel_rfl) (by kernel_rfl) (by kernel_rfl) (fun _ _ _ h => h) (Or.inl ⟨by rfl, ?_⟩) (by assumption) ?_
            rotate_left
            · intro w_ hSw; (try dsimp only at hSw); go_simp <;> with_reducible rfl
            simp only [Act.put, List.setIfInBounds_toArray, List.set_cons_zero, List.set_cons_succ]
            refine wpAnyH_done (by kernel_rfl) ?_ _
            have HF := Lib.hid hHeld.2.2.2.2.2.2
            clear hHeld
            go_wp2
            go_ret
            exact ⟨by first | rfl | simp, HF.out⟩
          exact AllReadyH.nil
        exact AllReadyH.nil
      exact AllReadyH.nil
    exact AllReadyH.nil

end Go.Proofs.Ytfchmjldhefmkaa
