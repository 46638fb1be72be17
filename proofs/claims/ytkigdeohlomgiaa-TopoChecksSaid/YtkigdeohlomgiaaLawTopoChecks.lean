/-
  linesidelaw13: TopoChecks.
-/
import Derived.Test.YtkigdeohlomgiaaLawAwake13

import Derived.BigQuiet

import Derived.IntWalk

namespace Go.Proofs.Ytkigdeohlomgiaa

open Go.RowKit

open Go.Great

set_option maxRecDepth 100000 in
set_option maxHeartbeats 8000000 in
theorem topoChecks_walk (t : Tp3) (a : TpA) (id : Int) (w : World) (ht : TopR w t a) (hcj : t.joints.length ≤ a.cj) (_ : (Lit.int .i64 id).wf = true) :
    Calls Try.prog 3 #[.agg (tpC t a), .int .i64 id] w fun e w' => e = .returned (.bool true) ∧ Below w.heap.size w w' := by
  obtain ⟨wa, hwa⟩ : ∃ wa, w.alloc (.cells (tpC t a) 27) = wa := ⟨_, rfl⟩
  have hbwa : Below w.heap.size w wa := by rw [← hwa]; exact (Below.refl _ _).alloc (Nat.le_refl _) _
  have h0 : Has wa (w.heap.size) 27 (tpC t a) := by rw [← hwa]; exact (Has.made _ _ _)
  have HWA := Lib.hid hwa; have HBWA := Lib.hid hbwa
  have H0 := Lib.hid (fun W (hW : Below wa.heap.size wa W) => h0.under hW h0.lt)
  have HT := Lib.hid (fun W (hW : Below w.heap.size w W) => ht.under hW)
  have HBA := Lib.hid (fun W (hW : Below wa.heap.size wa W) => hbwa.trans (hW.mono hbwa.size))
  clear hwa hbwa h0 ht
  obtain ⟨q, hq⟩ : ∃ q, lightT t = q := ⟨_, rfl⟩
  have HQ := Lib.hid hq
  clear hq
  go_enter Try.func3, Try.ntmps3
  go_upto_region 1 with fail
  rw [HWA.out]
  clear HWA
  go_wp2_with fail
  refine (awake13_any wa).mono ?_
  rintro e w1 ⟨rfl, hb1⟩
  have HB1 := Lib.hid hb1
  clear hb1
  go_wp2_with (with_reducible refine wpList_load_row (o := ⟨some 17, _, _, _, _, _⟩) rfl 27 _ rfl (w.heap.size) rfl 27 (tpC t a) (0, 0) _ ((H0.out w1 HB1.out)).raw11 Try.underlying27 rfl (by kernel_rfl) ?_)
  refine (rlight_any13 t a w1 (HT.out _ (HBA.out _ HB1.out))).mono ?_
  rw [HQ.out]
  rintro e w2 ⟨rfl, hb2⟩
  have HB2 := Lib.hid (HB1.out.trans (hb2.mono HB1.out.size))
  clear hb2 HB1
  cases q with
  | false =>
    go_wp2
    go_ret
    exact ⟨by first | rfl | simp, HBA.out _ HB2.out⟩
  | true =>
    have HLN := Lib.hid (light_nums13 HQ.out)
    obtain ⟨B, hB⟩ : ∃ B, balR t id = B := ⟨_, rfl⟩
    obtain ⟨bs, hbs⟩ : ∃ b, (balF t id).isSome = b := ⟨_, rfl⟩
    obtain ⟨R, hR⟩ : ∃ R, routeR t id = R := ⟨_, rfl⟩
    obtain ⟨rs, hrs⟩ : ∃ b, (routeF t id).isSome = b := ⟨_, rfl⟩
    obtain ⟨cE, hcE⟩ : ∃ e, checkE t = e := ⟨_, rfl⟩
    have hpl : R.path.length ≤ 1048576 := by
      rw [← hR]
      unfold routeR
      cases hf : routeF t id with
      | none => simp
      | some r =>
        have := HLN.out.2.2.2.2 r (List.mem_of_find?_eq_some hf)
        simp only [Option.getD_some]
        omega
    have HR1 := Lib.hid (fun W h => otp_bal t a id W h HQ.out)
    have HR2 := Lib.hid (fun W h => rbal_any t a id W h (by have := HLN.out; omega))
    have HR3 := Lib.hid (fun W h => otp_route t a id W h HQ.out)
    have HR4 := Lib.hid (fun W h => rroute_any t a id W h (by have := HLN.out; omega))
    have HR5 := Lib.hid (fun W h => otp_check t a W h HQ.out hcj)
    have HR6 := Lib.hid (fun W h => rcheck_any t a W h HQ.out hcj)
    simp only [hB, hbs] at HR1 HR2
    simp only [hR, hrs] at HR3 HR4
    simp only [hcE] at HR5 HR6
    have HPL := Lib.hid hpl
    clear hB hbs hR hrs hcE hpl hcj
    have HK := Lib.hid (HR1.out w2 (HT.out _ (HBA.out _ HB2.out)))
    go_wp2_with (with_reducible refine wpList_load_row (o := ⟨some 27, _, _, _, _, _⟩) rfl 27 _ rfl (w.heap.size) rfl 27 (tpC t a) (0, 0) _ ((H0.out w2 HB2.out)).raw11 Try.underlying27 rfl (by kernel_rfl) ?_)
    refine HK.out.mono ?_
    rintro e v1 ⟨rfl, hb⟩
    have hm : Has (v1.alloc (.cells #[.int .i64 0, .int .i64 0, .int .i64 0] 31)) v1.heap.size 31 #[.int .i64 0, .int .i64 0, .int .i64 0] := Has.made _ _ _
    have HM := Lib.hid hm
    obtain ⟨u1, hu1⟩ : ∃ u_, (v1.alloc (.cells #[.int .i64 0, .int .i64 0, .int .i64 0] 31)).setRow v1.heap.size (blA B) = u_ := ⟨_, rfl⟩
    have hbu : Below v1.heap.size v1 u1 := by rw [← hu1]; exact below_row (g := v1.heap.size) ((Below.refl _ _).alloc (Nat.le_refl _) _) (Nat.le_refl _) _
    have hx1 : Has u1 v1.heap.size 31 (blA B) := by rw [← hu1]; exact has_row11 hm _
    have hstep : Below w2.heap.size w2 u1 := hb.trans (hbu.mono hb.size)
    have HC1 := Lib.hid (HB2.out.trans (hstep.mono HB2.out.size))
    have HX1 := Lib.hid hx1
    have HUU := Lib.hid hu1
    clear hm hbu hx1 hb hstep hu1 HK
    go_upto_region 6 with (with_reducible refine wpList_store_rowTo (o := ⟨none, _, _, _, _, _⟩) rfl 31 _ _ rfl rfl (v1.heap.size) (blA B) rfl rfl 31 _ (HM.out).raw11 (by kernel_rfl) (by kernel_rfl) (by kernel_rfl) ?_)
    rw [HUU.out]
    clear HUU HM
    have HK := Lib.hid (HR2.out u1 (HT.out _ (HBA.out _ HC1.out)))
    go_wp2_with (with_reducible refine wpList_load_row (o := ⟨some 33, _, _, _, _, _⟩) rfl 27 _ rfl (w.heap.size) rfl 27 (tpC t a) (0, 0) _ ((H0.out u1 HC1.out)).raw11 Try.underlying27 rfl (by kernel_rfl) ?_)
    refine HK.out.mono ?_
    rintro e v2 ⟨rfl, hb⟩
    have hm : Has (v2.alloc (.cells #[.int .i64 0, .int .i64 0, .int .i64 0] 31)) v2.heap.size 31 #[.int .i64 0, .int .i64 0, .int .i64 0] := Has.made _ _ _
    have HM := Lib.hid hm
    obtain ⟨u2, hu2⟩ : ∃ u_, (v2.alloc (.cells #[.int .i64 0, .int .i64 0, .int .i64 0] 31)).setRow v2.heap.size (blA B) = u_ := ⟨_, rfl⟩
    have hbu : Below v2.heap.size v2 u2 := by rw [← hu2]; exact below_row (g := v2.heap.size) ((Below.refl _ _).alloc (Nat.le_refl _) _) (Nat.le_refl _) _
    have hx2 : Has u2 v2.heap.size 31 (blA B) := by rw [← hu2]; exact has_row11 hm _
    have hstep : Below u1.heap.size u1 u2 := hb.trans (hbu.mono hb.size)
    have HC2 := Lib.hid (HC1.out.trans (hstep.mono HC1.out.size))
    have HX2 := Lib.hid hx2
    have HX1_2 := Lib.hid (HX1.out.under hstep HX1.out.lt)
    have HUU := Lib.hid hu2
    clear hm hbu hx2 hb hstep hu2 HK
    go_upto_region 7 with (with_reducible refine wpList_store_rowTo (o := ⟨none, _, _, _, _, _⟩) rfl 31 _ _ rfl rfl (v2.heap.size) (blA B) rfl rfl 31 _ (HM.out).raw11 (by kernel_rfl) (by kernel_rfl) (by kernel_rfl) ?_)
    rw [HUU.out]
    clear HUU HM
    have HK := Lib.hid (HR3.out u2 (HT.out _ (HBA.out _ HC2.out)))
    go_wp2_with (with_reducible refine wpList_load_row (o := ⟨some 39, _, _, _, _, _⟩) rfl 27 _ rfl (w.heap.size) rfl 27 (tpC t a) (0, 0) _ ((H0.out u2 HC2.out)).raw11 Try.underlying27 rfl (by kernel_rfl) ?_)
    refine HK.out.mono ?_
    rintro e v3 ⟨_, ⟨A3, c3, rfl, hs3⟩, rfl, hb⟩
    have hm : Has (v3.alloc (.cells #[.int .i64 0, .slice none 0 0, .int .i64 0, .int .i64 0] 36)) v3.heap.size 36 #[.int .i64 0, .slice none 0 0, .int .i64 0, .int .i64 0] := Has.made _ _ _
    have HM := Lib.hid hm
    obtain ⟨u3, hu3⟩ : ∃ u_, (v3.alloc (.cells #[.int .i64 0, .slice none 0 0, .int .i64 0, .int .i64 0] 36)).setRow v3.heap.size (rtA R (.slice A3 R.path.length c3)) = u_ := ⟨_, rfl⟩
    have hbu : Below v3.heap.size v3 u3 := by rw [← hu3]; exact below_row (g := v3.heap.size) ((Below.refl _ _).alloc (Nat.le_refl _) _) (Nat.le_refl _) _
    have hx3 : Has u3 v3.heap.size 36 (rtA R (.slice A3 R.path.length c3)) := by rw [← hu3]; exact has_row11 hm _
    have hstep : Below u2.heap.size u2 u3 := hb.trans (hbu.mono hb.size)
    have HC3 := Lib.hid (HC2.out.trans (hstep.mono HC2.out.size))
    have HX3 := Lib.hid hx3
    have hp3 : PathV v3 (.slice A3 R.path.length c3) R.path := ⟨A3, c3, rfl, hs3⟩
    have HP3 := Lib.hid (hp3.under hbu)
    have HX1_3 := Lib.hid (HX1_2.out.under hstep HX1_2.out.lt)
    have HX2_3 := Lib.hid (HX2.out.under hstep HX2.out.lt)
    have HUU := Lib.hid hu3
    clear hm hbu hx3 hb hstep hu3 HK hp3 hs3
    go_upto_region 8 with (with_reducible refine wpList_store_rowTo (o := ⟨none, _, _, _, _, _⟩) rfl 36 _ _ rfl rfl (v3.heap.size) (rtA R (.slice A3 R.path.length c3)) rfl rfl 36 _ (HM.out).raw11 (by kernel_rfl) (by kernel_rfl) (by kernel_rfl) ?_)
    rw [HUU.out]
    clear HUU HM
    have HK := Lib.hid (HR4.out u3 (HT.out _ (HBA.out _ HC3.out)))
    go_wp2_with (with_reducible refine wpList_load_row (o := ⟨some 45, _, _, _, _, _⟩) rfl 27 _ rfl (w.heap.size) rfl 27 (tpC t a) (0, 0) _ ((H0.out u3 HC3.out)).raw11 Try.underlying27 rfl (by kernel_rfl) ?_)
    refine HK.out.mono ?_
    rintro e v4 ⟨_, ⟨A4, c4, rfl, hs4⟩, rfl, hb⟩
    have hm : Has (v4.alloc (.cells #[.int .i64 0, .slice none 0 0, .int .i64 0, .int .i64 0] 36)) v4.heap.size 36 #[.int .i64 0, .slice none 0 0, .int .i64 0, .int .i64 0] := Has.made _ _ _
    have HM := Lib.hid hm
    obtain ⟨u4, hu4⟩ : ∃ u_, (v4.alloc (.cells #[.int .i64 0, .slice none 0 0, .int .i64 0, .int .i64 0] 36)).setRow v4.heap.size (rtA R (.slice A4 R.path.length c4)) = u_ := ⟨_, rfl⟩
    have hbu : Below v4.heap.size v4 u4 := by rw [← hu4]; exact below_row (g := v4.heap.size) ((Below.refl _ _).alloc (Nat.le_refl _) _) (Nat.le_refl _) _
    have hx4 : Has u4 v4.heap.size 36 (rtA R (.slice A4 R.path.length c4)) := by rw [← hu4]; exact has_row11 hm _
    have hstep : Below u3.heap.size u3 u4 := hb.trans (hbu.mono hb.size)
    have HC4 := Lib.hid (HC3.out.trans (hstep.mono HC3.out.size))
    have HX4 := Lib.hid hx4
    have hp4 : PathV v4 (.slice A4 R.path.length c4) R.path := ⟨A4, c4, rfl, hs4⟩
    have HP4 := Lib.hid (hp4.under hbu)
    have HX1_4 := Lib.hid (HX1_3.out.under hstep HX1_3.out.lt)
    have HX2_4 := Lib.hid (HX2_3.out.under hstep HX2_3.out.lt)
    have HX3_4 := Lib.hid (HX3.out.under hstep HX3.out.lt)
    have HP3_4 := Lib.hid (HP3.out.under hstep)
    have HUU := Lib.hid hu4
    clear hm hbu hx4 hb hstep hu4 HK hp4 hs4
    go_upto_region 9 with (with_reducible refine wpList_store_rowTo (o := ⟨none, _, _, _, _, _⟩) rfl 36 _ _ rfl rfl (v4.heap.size) (rtA R (.slice A4 R.path.length c4)) rfl rfl 36 _ (HM.out).raw11 (by kernel_rfl) (by kernel_rfl) (by kernel_rfl) ?_)
    rw [HUU.out]
    clear HUU HM
    have HK := Lib.hid (rsame_any13 R R (.slice A3 R.path.length c3) (.slice A4 R.path.length c4) u4 HP3_4.out HP4.out HPL.out)
    rw [show sameR R R = true from (sameR_iff R R).2 rfl] at HK
    go_wp2_with (first | (with_reducible refine wpList_load_row (o := ⟨some 50, _, _, _, _, _⟩) rfl 36 _ rfl (v3.heap.size) rfl 36 (rtA R (.slice A3 R.path.length c3)) (0, 0) _ (HX3_4.out).raw11 Try.underlying36 rfl (by kernel_rfl) ?_) | (with_reducible refine wpList_load_row (o := ⟨some 51, _, _, _, _, _⟩) rfl 36 _ rfl (v4.heap.size) rfl 36 (rtA R (.slice A4 R.path.length c4)) (0, 0) _ (HX4.out).raw11 Try.underlying36 rfl (by kernel_rfl) ?_))
    refine HK.out.mono ?_
    rintro e u5 ⟨rfl, hb⟩
    have HC5 := Lib.hid (HC4.out.trans (hb.mono HC4.out.size))
    have HY1 := Lib.hid (HX1_4.out.under hb HX1_4.out.lt)
    have HY2 := Lib.hid (HX2_4.out.under hb HX2_4.out.lt)
    clear hb HK
    have qb : ∀ W, (binOp .eql 31 (.agg (blA B)) (.agg (blA B))).run Try.prog W = .ok (.bool true) W := fun W => by rw [eql_bl13]; simp [eqB]
    go_upto_region 10 with fail
    refine wp_region_held_drew (S := (fun W_ => Has W_ (w.heap.size) 27 (tpC t a) ∧ Has W_ (v1.heap.size) 31 (blA B) ∧ Has W_ (v2.heap.size) 31 (blA B) ∧ Below wa.heap.size wa W_)) (by kernel_rfl) ?_ (fun hHeld => ?_)
    · exact ⟨(H0.out _ HC5.out).draw, HY1.out.draw, HY2.out.draw, below_dr11 HC5.out⟩
    refine wpAnyH_take (i := 0) (oi := ⟨some 53, _, _, _, _, _⟩) (v := ?_) rfl (by kernel_rfl) (by kernel_rfl) (by kernel_rfl) (fun _ _ _ h => h) (Or.inl ⟨by rfl, ?_⟩) (by assumption) ?_
    rotate_left
    · intro w_ hSw; (try dsimp only at hSw); go_simp <;> with_reducible rfl
    simp only [Act.put, List.setIfInBounds_toArray, List.set_cons_zero, List.set_cons_succ]
    refine wpAnyH_take (i := 1) (oi := ⟨some 54, _, _, _, _, _⟩) (v := ?_) rfl (by kernel_rfl) (by kernel_rfl) (by kernel_rfl) (fun _ _ _ h => h) (Or.inl ⟨by rfl, ?_⟩) (by assumption) ?_
    rotate_left
    · intro w_ hSw; (try dsimp only at hSw); go_simp <;> with_reducible rfl
    simp only [Act.put, List.setIfInBounds_toArray, List.set_cons_zero, List.set_cons_succ]
    refine wpAnyH_take (i := 2) (oi := ⟨some 55, _, _, _, _, _⟩) (v := .agg (tpC t a)) rfl (by kernel_rfl) (by kernel_rfl) (by kernel_rfl) (fun _ _ _ h => h) (yields_load_row11 27 _ rfl (w.heap.size) rfl 27 (tpC t a) _ (fun _ ⟨h_, _, _, _⟩ => h_) Try.underlying27 rfl (by kernel_rfl) (by rfl)) (by assumption) ?_
    simp only [Act.put, List.setIfInBounds_toArray, List.set_cons_zero, List.set_cons_succ]
    refine wpAnyH_take (i := 4) (oi := ⟨some 57, _, _, _, _, _⟩) (v := .agg (tpC t a)) rfl (by kernel_rfl) (by kernel_rfl) (by kernel_rfl) (fun _ _ _ h => h) (yields_load_row11 27 _ rfl (w.heap.size) rfl 27 (tpC t a) _ (fun _ ⟨h_, _, _, _⟩ => h_) Try.underlying27 rfl (by kernel_rfl) (by rfl)) (by assumption) ?_
    simp only [Act.put, List.setIfInBounds_toArray, List.set_cons_zero, List.set_cons_succ]
    refine wpAnyH_ready (rs := [3]) (by kernel_rfl) (by simp) ?_
    refine AllReadyH.cons (o := ⟨some 56, _, _, _, _, _⟩) rfl (fun K hK => ?_) ?_
    · go_simp
      obtain ⟨s0, s1, s2, s3⟩ := hHeld
      refine (HR5.out _ (HT.out _ (HBA.out _ s3))).mono ?_
      rintro e_ vs ⟨rfl, hbs⟩
      go_wp2_with fail
      refine hK.out _ _ ?_ (fun hHeld => ?_)
      · exact ⟨s0.under hbs s0.lt, s1.under hbs s1.lt, s2.under hbs s2.lt, s3.trans (hbs.mono s3.size)⟩
      clear hK K s0 s1 s2 s3
      try simp only [Act.put, List.setIfInBounds_toArray, List.set_cons_zero, List.set_cons_succ]
      refine wpAnyH_ready (rs := [5]) (by kernel_rfl) (by simp) ?_
      refine AllReadyH.cons (o := ⟨some 58, _, _, _, _, _⟩) rfl (fun K hK => ?_) ?_
      · go_simp
        obtain ⟨s0, s1, s2, s3⟩ := hHeld
        refine (HR6.out _ (HT.out _ (HBA.out _ s3))).mono ?_
        rintro e_ vs ⟨rfl, hbs⟩
        go_wp2_with fail
        refine hK.out _ _ ?_ (fun hHeld => ?_)
        · exact ⟨s0.under hbs s0.lt, s1.under hbs s1.lt, s2.under hbs s2.lt, s3.trans (hbs.mono s3.size)⟩
        clear hK K s0 s1 s2 s3
        try simp only [Act.put, List.setIfInBounds_toArray, List.set_cons_zero, List.set_cons_succ]
        refine wpAnyH_take (i := 6) (oi := ⟨some 59, _, _, _, _, _⟩) (v := ?_) rfl (by kernel_rfl) (by kernel_rfl) (by kernel_rfl) (fun _ _ _ h => h) (Or.inl ⟨by rfl, ?_⟩) (by assumption) ?_
        rotate_left
        · intro w_ hSw; (try dsimp only at hSw); go_simp <;> with_reducible rfl
        simp only [Act.put, List.setIfInBounds_toArray, List.set_cons_zero, List.set_cons_succ]
        refine wpAnyH_take (i := 7) (oi := ⟨some 60, _, _, _, _, _⟩) (v := ?_) rfl (by kernel_rfl) (by kernel_rfl) (by kernel_rfl) (fun _ _ _ h => h) (Or.inl ⟨by rfl, ?_⟩) (by assumption) ?_
        rotate_left
        · intro w_ hSw; (try dsimp only at hSw); go_simp <;> with_reducible rfl
        simp only [Act.put, List.setIfInBounds_toArray, List.set_cons_zero, List.set_cons_succ]
        refine wpAnyH_take (i := 8) (oi := ⟨some 61, _, _, _, _, _⟩) (v := ?_) rfl (by kernel_rfl) (by kernel_rfl) (by kernel_rfl) (fun _ _ _ h => h) (Or.inl ⟨by rfl, ?_⟩) (by assumption) ?_
        rotate_left
        · intro w_ hSw; (try dsimp only at hSw); go_simp <;> with_reducible rfl
        simp only [Act.put, List.setIfInBounds_toArray, List.set_cons_zero, List.set_cons_succ]
        refine wpAnyH_take (i := 9) (oi := ⟨some 62, _, _, _, _, _⟩) (v := .agg (blA B)) rfl (by kernel_rfl) (by kernel_rfl) (by kernel_rfl) (fun _ _ _ h => h) (yields_load_row11 31 _ rfl (v1.heap.size) rfl 31 (blA B) _ (fun _ ⟨_, h_, _, _⟩ => h_) Try.underlying31 rfl (by kernel_rfl) (by rfl)) (by assumption) ?_
        simp only [Act.put, List.setIfInBounds_toArray, List.set_cons_zero, List.set_cons_succ]
        refine wpAnyH_take (i := 10) (oi := ⟨some 63, _, _, _, _, _⟩) (v := .agg (blA B)) rfl (by kernel_rfl) (by kernel_rfl) (by kernel_rfl) (fun _ _ _ h => h) (yields_load_row11 31 _ rfl (v2.heap.size) rfl 31 (blA B) _ (fun _ ⟨_, _, h_, _⟩ => h_) Try.underlying31 rfl (by kernel_rfl) (by rfl)) (by assumption) ?_
        simp only [Act.put, List.setIfInBounds_toArray, List.set_cons_zero, List.set_cons_succ]
        refine wpAnyH_take (i := 11) (oi := ⟨some 64, _, _, _, _, _⟩) (v := .bool true) rfl (by kernel_rfl) (by kernel_rfl) (by kernel_rfl) (fun _ _ _ h => h) (yields_aggCmp11 .eql 31 _ _ _ rfl _ _ rfl rfl plain_bl13 _ qb (by rfl)) (by assumption) ?_
        simp only [Act.put, List.setIfInBounds_toArray, List.set_cons_zero, List.set_cons_succ]
        refine wpAnyH_take (i := 12) (oi := ⟨some 65, _, _, _, _, _⟩) (v := ?_) rfl (by kernel_rfl) (by kernel_rfl) (by kernel_rfl) (fun _ _ _ h => h) (Or.inl ⟨by rfl, ?_⟩) (by assumption) ?_
        rotate_left
        · intro w_ hSw; (try dsimp only at hSw); go_simp <;> with_reducible rfl
        simp only [Act.put, List.setIfInBounds_toArray, List.set_cons_zero, List.set_cons_succ]
        refine wpAnyH_take (i := 13) (oi := ⟨some 66, _, _, _, _, _⟩) (v := ?_) rfl (by kernel_rfl) (by kernel_rfl) (by kernel_rfl) (fun _ _ _ h => h) (Or.inl ⟨by rfl, ?_⟩) (by assumption) ?_
        rotate_left
        · intro w_ hSw; (try dsimp only at hSw); go_simp <;> with_reducible rfl
        simp only [Act.put, List.setIfInBounds_toArray, List.set_cons_zero, List.set_cons_succ]
        refine wpAnyH_take (i := 14) (oi := ⟨some 67, _, _, _, _, _⟩) (v := ?_) rfl (by kernel_rfl) (by kernel_rfl) (by kernel_rfl) (fun _ _ _ h => h) (Or.inl ⟨by rfl, ?_⟩) (by assumption) ?_
        rotate_left
        · intro w_ hSw; (try dsimp only at hSw); go_simp <;> with_reducible rfl
        simp only [Act.put, List.setIfInBounds_toArray, List.set_cons_zero, List.set_cons_succ]
        refine wpAnyH_take (i := 15) (oi := ⟨some 68, _, _, _, _, _⟩) (v := ?_) rfl (by kernel_rfl) (by kernel_rfl) (by kernel_rfl) (fun _ _ _ h => h) (Or.inl ⟨by rfl, ?_⟩) (by assumption) ?_
        rotate_left
        · intro w_ hSw; (try dsimp only at hSw); go_simp <;> with_reducible rfl
        simp only [Act.put, List.setIfInBounds_toArray, List.set_cons_zero, List.set_cons_succ]
        refine wpAnyH_take (i := 16) (oi := ⟨some 69, _, _, _, _, _⟩) (v := ?_) rfl (by kernel_rfl) (by kernel_rfl) (by kernel_rfl) (fun _ _ _ h => h) (Or.inl ⟨by rfl, ?_⟩) (by assumption) ?_
        rotate_left
        · intro w_ hSw; (try dsimp only at hSw); go_simp <;> with_reducible rfl
        simp only [Act.put, List.setIfInBounds_toArray, List.set_cons_zero, List.set_cons_succ]
        refine wpAnyH_take (i := 17) (oi := ⟨some 70, _, _, _, _, _⟩) (v := ?_) rfl (by kernel_rfl) (by kernel_rfl) (by kernel_rfl) (fun _ _ _ h => h) (Or.inl ⟨by rfl, ?_⟩) (by assumption) ?_
        rotate_left
        · intro w_ hSw; (try dsimp only at hSw); go_simp <;> with_reducible rfl
        simp only [Act.put, List.setIfInBounds_toArray, List.set_cons_zero, List.set_cons_succ]
        refine wpAnyH_take (i := 18) (oi := ⟨some 71, _, _, _, _, _⟩) (v := ?_) rfl (by kernel_rfl) (by kernel_rfl) (by kernel_rfl) (fun _ _ _ h => h) (Or.inl ⟨by rfl, ?_⟩) (by assumption) ?_
        rotate_left
        · intro w_ hSw; (try dsimp only at hSw); go_simp <;> with_reducible rfl
        simp only [Act.put, List.setIfInBounds_toArray, List.set_cons_zero, List.set_cons_succ]
        refine wpAnyH_take (i := 19) (oi := ⟨some 72, _, _, _, _, _⟩) (v := ?_) rfl (by kernel_rfl) (by kernel_rfl) (by kernel_rfl) (fun _ _ _ h => h) (Or.inl ⟨by rfl, ?_⟩) (by assumption) ?_
        rotate_left
        · intro w_ hSw; (try dsimp only at hSw); go_simp <;> with_reducible rfl
        simp only [Act.put, List.setIfInBounds_toArray, List.set_cons_zero, List.set_cons_succ]
        refine wpAnyH_take (i := 20) (oi := ⟨some 73, _, _, _, _, _⟩) (v := ?_) rfl (by kernel_rfl) (by kernel_rfl) (by kernel_rfl) (fun _ _ _ h => h) (Or.inl ⟨by rfl, ?_⟩) (by assumption) ?_
        rotate_left
        · intro w_ hSw; (try dsimp only at hSw); go_simp <;> with_reducible rfl
        simp only [Act.put, List.setIfInBounds_toArray, List.set_cons_zero, List.set_cons_succ]
        refine wpAnyH_take (i := 21) (oi := ⟨some 74, _, _, _, _, _⟩) (v := ?_) rfl (by kernel_rfl) (by kernel_rfl) (by kernel_rfl) (fun _ _ _ h => h) (Or.inl ⟨by rfl, ?_⟩) (by assumption) ?_
        rotate_left
        · intro w_ hSw; (try dsimp only at hSw); go_simp <;> with_reducible rfl
        simp only [Act.put, List.setIfInBounds_toArray, List.set_cons_zero, List.set_cons_succ]
        refine wpAnyH_take (i := 22) (oi := ⟨some 75, _, _, _, _, _⟩) (v := ?_) rfl (by kernel_rfl) (by kernel_rfl) (by kernel_rfl) (fun _ _ _ h => h) (Or.inl ⟨by rfl, ?_⟩) (by assumption) ?_
        rotate_left
        · intro w_ hSw; (try dsimp only at hSw); go_simp <;> with_reducible rfl
        simp only [Act.put, List.setIfInBounds_toArray, List.set_cons_zero, List.set_cons_succ]
        refine wpAnyH_take (i := 23) (oi := ⟨some 4, _, _, _, _, _⟩) (v := ?_) rfl (by kernel_rfl) (by kernel_rfl) (by kernel_rfl) (fun _ _ _ h => h) (Or.inl ⟨by rfl, ?_⟩) (by assumption) ?_
        rotate_left
        · intro w_ hSw; (try dsimp only at hSw); go_simp <;> with_reducible rfl
        simp only [Act.put, List.setIfInBounds_toArray, List.set_cons_zero, List.set_cons_succ]
        refine wpAnyH_done (by kernel_rfl) ?_ _
        have HF := Lib.hid hHeld.2.2.2
        clear hHeld
        go_wp2
        go_ret
        exact ⟨by first | rfl | simp, HBA.out _ HF.out⟩
      exact AllReadyH.nil
    exact AllReadyH.nil

end Go.Proofs.Ytkigdeohlomgiaa
