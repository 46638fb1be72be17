/-
  linesidelaw13: TopoFinds.
-/
import Derived.Test.YtkigdeohlomgiaaLawAwake13

import Derived.BigQuiet

import Derived.IntWalk

import Derived.Deep.CutBlock

namespace Go.Proofs.Ytkigdeohlomgiaa

open Go.RowKit

open Go.Great

set_option maxRecDepth 100000 in
set_option maxHeartbeats 8000000 in
theorem topoFinds_walk (t : Tp3) (a : TpA) (id : Int) (w : World) (ht : TopR w t a) (_ : t.joints.length ≤ a.cj) (_ : (Lit.int .i64 id).wf = true) :
    Calls Try.prog 6 #[.agg (tpC t a), .int .i64 id] w fun e w' => e = .returned (.bool true) ∧ Below w.heap.size w w' := by
  obtain ⟨wa, hwa⟩ : ∃ wa, w.alloc (.cells (tpC t a) 27) = wa := ⟨_, rfl⟩
  have hbwa : Below w.heap.size w wa := by rw [← hwa]; exact (Below.refl _ _).alloc (Nat.le_refl _) _
  have h0 : Has wa (w.heap.size) 27 (tpC t a) := by rw [← hwa]; exact (Has.made _ _ _)
  have HWA := Lib.hid hwa; have HBWA := Lib.hid hbwa
  obtain ⟨n2, hn2⟩ : ∃ n, t.bals.length = n := ⟨_, rfl⟩
  obtain ⟨n3, hn3⟩ : ∃ n, t.routes.length = n := ⟨_, rfl⟩
  obtain ⟨AB, hAB⟩ : ∃ A, a.ab = A := ⟨_, rfl⟩
  obtain ⟨AR, hAR⟩ : ∃ A, a.ar = A := ⟨_, rfl⟩
  have HSB := Lib.hid (show SlO blC 3 w AB n2 a.cb t.bals from by rw [← hAB, ← hn2]; exact ht.b)
  have HSR := Lib.hid (show RtsR w AR n3 a.cr t.routes from by rw [← hAR, ← hn3]; exact ht.r)
  have KC2 := Lib.hid (fun W (hW : Below wa.heap.size wa W) => (show W.cell? ⟨w.heap.size, 2, none⟩ = some (.slice AB n2 a.cb) from by rw [← hAB, ← hn2]; exact (h0.under hW h0.lt).cell 2))
  have KC3 := Lib.hid (fun W (hW : Below wa.heap.size wa W) => (show W.cell? ⟨w.heap.size, 3, none⟩ = some (.slice AR n3 a.cr) from by rw [← hAR, ← hn3]; exact (h0.under hW h0.lt).cell 3))
  have HN2 := Lib.hid hn2; have HN3 := Lib.hid hn3
  have H0 := Lib.hid (fun W (hW : Below wa.heap.size wa W) => h0.under hW h0.lt)
  have HT := Lib.hid (fun W (hW : Below w.heap.size w W) => ht.under hW)
  have HBA := Lib.hid (fun W (hW : Below wa.heap.size wa W) => hbwa.trans (hW.mono hbwa.size))
  clear hwa hbwa h0 ht hn2 hn3 hAB hAR
  obtain ⟨q, hq⟩ : ∃ q, lightT t = q := ⟨_, rfl⟩
  have HQ := Lib.hid hq
  clear hq
  go_enter Try.func6, Try.ntmps6
  go_upto_region 1 with fail
  rw [HWA.out]
  clear HWA
  go_wp2_with fail
  refine (awake13_any wa).mono ?_
  rintro e w1 ⟨rfl, hb1⟩
  have HB1 := Lib.hid hb1
  clear hb1
  go_wp2_with (with_reducible refine wpList_load_row (o := ⟨some 15, _, _, _, _, _⟩) rfl 27 _ rfl (w.heap.size) rfl 27 (tpC t a) (0, 0) _ ((H0.out w1 HB1.out)).raw11 Try.underlying27 rfl (by kernel_rfl) ?_)
  refine (rlight_any13 t a w1 (HT.out _ (HBA.out _ HB1.out))).mono ?_
  rw [HQ.out]
  rintro e w2 ⟨rfl, hb2⟩
  have HB2 := Lib.hid (HB1.out.trans (hb2.mono HB1.out.size))
  clear hb2 HB1
  cases q with
  | false =>
    go_wp2
    go_ret
    exact ⟨by first | rfl | simp, HBA.out _ HB2.out⟩
  | true =>
    have HLN := Lib.hid (light_nums13 HQ.out)
    have k2 : n2 ≤ 100 := by have h1_ := HLN.out.2.2.1; have h2_ := HN2.out; omega
    have k3 : n3 ≤ 100 := by have h1_ := HLN.out.2.2.2.1; have h2_ := HN3.out; omega
    obtain ⟨B, hB⟩ : ∃ B, balR t id = B := ⟨_, rfl⟩
    obtain ⟨bs, hbs⟩ : ∃ b, (balF t id).isSome = b := ⟨_, rfl⟩
    obtain ⟨R, hR⟩ : ∃ R, routeR t id = R := ⟨_, rfl⟩
    obtain ⟨rs, hrs⟩ : ∃ b, (routeF t id).isSome = b := ⟨_, rfl⟩
    have hpl : R.path.length ≤ 1048576 := by
      rw [← hR]
      unfold routeR
      cases hf : routeF t id with
      | none => simp
      | some r =>
        have := HLN.out.2.2.2.2 r (List.mem_of_find?_eq_some hf)
        simp only [Option.getD_some]
        omega
    have HR1 := Lib.hid (fun W h => otp_bal t a id W h HQ.out)
    have HR3 := Lib.hid (fun W h => otp_route t a id W h HQ.out)
    simp only [hB, hbs] at HR1
    simp only [hR, hrs] at HR3
    have HPL := Lib.hid hpl
    have HBV : Hid (∀ x, balF t id = some x → B = x ∧ bs = true) := Lib.hid fun x h => ⟨by rw [← hB]; unfold balR; rw [h]; rfl, by rw [← hbs, h]; rfl⟩
    have HBN : Hid (balF t id = none → bs = false) := Lib.hid fun h => by rw [← hbs, h]; rfl
    have HRV : Hid (∀ x, routeF t id = some x → R = x ∧ rs = true) := Lib.hid fun x h => ⟨by rw [← hR]; unfold routeR; rw [h]; rfl, by rw [← hrs, h]; rfl⟩
    have HRN : Hid (routeF t id = none → rs = false) := Lib.hid fun h => by rw [← hrs, h]; rfl
    clear hB hbs hR hrs hpl
    have HK := Lib.hid (HR1.out w2 (HT.out _ (HBA.out _ HB2.out)))
    go_wp2_with (with_reducible refine wpList_load_row (o := ⟨some 25, _, _, _, _, _⟩) rfl 27 _ rfl (w.heap.size) rfl 27 (tpC t a) (0, 0) _ ((H0.out w2 HB2.out)).raw11 Try.underlying27 rfl (by kernel_rfl) ?_)
    refine HK.out.mono ?_
    rintro e v1 ⟨rfl, hb⟩
    have hm : Has (v1.alloc (.cells #[.int .i64 0, .int .i64 0, .int .i64 0] 31)) v1.heap.size 31 #[.int .i64 0, .int .i64 0, .int .i64 0] := Has.made _ _ _
    have HM := Lib.hid hm
    obtain ⟨u1, hu1⟩ : ∃ u_, (v1.alloc (.cells #[.int .i64 0, .int .i64 0, .int .i64 0] 31)).setRow v1.heap.size (blA B) = u_ := ⟨_, rfl⟩
    have hbu : Below v1.heap.size v1 u1 := by rw [← hu1]; exact below_row (g := v1.heap.size) ((Below.refl _ _).alloc (Nat.le_refl _) _) (Nat.le_refl _) _
    have hx1 : Has u1 v1.heap.size 31 (blA B) := by rw [← hu1]; exact has_row11 hm _
    have hstep : Below w2.heap.size w2 u1 := hb.trans (hbu.mono hb.size)
    have HC1 := Lib.hid (HB2.out.trans (hstep.mono HB2.out.size))
    have HX1 := Lib.hid hx1
    have HUU := Lib.hid hu1
    clear hm hbu hx1 hb hstep hu1 HK
    go_upto_region 6 with (with_reducible refine wpList_store_rowTo (o := ⟨none, _, _, _, _, _⟩) rfl 31 _ _ rfl rfl (v1.heap.size) (blA B) rfl rfl 31 _ (HM.out).raw11 (by kernel_rfl) (by kernel_rfl) (by kernel_rfl) ?_)
    rw [HUU.out]
    clear HUU HM
    obtain ⟨g1, hg1⟩ : ∃ g, v1.heap.size = g := ⟨_, rfl⟩
    rw [hg1] at HX1
    simp only [hg1]
    clear hg1
    go_upto_block 0 with fail
    go_cut [9] from 30 to 64 (fun _ wc => ∃ q : Nat, wc = u1.drewN q)
    case first =>
      have HU1 := Lib.hid HC1.out
      go_wp2_with fail
      go_loopg [9] n2 (fun kk v wl => ∃ i : Nat, i ≤ n2 ∧ n2 - i ≤ kk ∧ v = .int .i64 i ∧ Hid (∀ m y, m < i → t.bals[m]? = some y → (y.id == id) = false) ∧ wl = u1)
      case atStart => exact ⟨0, by omega, by omega, rfl, Lib.hid fun m y h => absurd h (by omega), rfl⟩
      case round =>
        obtain ⟨i, hi, hik, rfl, HNO, hwr⟩ := hrel
        obtain ⟨u0, hu0⟩ : ∃ u, u = wr := ⟨_, rfl⟩
        subst hu0
        have c2 := KC2.out u0 (by rw [hwr]; exact HC1.out)
        by_cases hlt : i < n2
        rotate_left
        · have x1 : ¬ (i : Int) < n2 := by omega
          have HWR := Lib.hid hwr
          clear hwr
          go_wp2
          go_meet
          exact ⟨0, HWR.out⟩
        obtain ⟨x, hx⟩ : ∃ x, t.bals[i]? = some x := ⟨_, List.getElem?_eq_getElem (by rw [HN2.out]; exact hlt)⟩
        have HX := Lib.hid hx
        obtain ⟨bk, off, rfl, d0, d1, d2⟩ := (HSB.out.under (HBA.out u0 (by rw [hwr]; exact HC1.out))).bal hx
        have y0 : (0 : Int) ≤ i := by omega
        have y1 : (i : Int) < n2 := by omega
        obtain ⟨u, hu⟩ : ∃ u, x.id = u := ⟨_, rfl⟩
        have HU := Lib.hid hu
        rw [hu] at d0
        clear hx hu
        by_cases hui : u = id
        · subst hui
          have HF := Lib.hid (show balF t u = some x from find_at13 HX.out (by show (x.id == u) = true; rw [HU.out]; simp) HNO.out)
          obtain ⟨rfl, rfl⟩ := HBV.out x HF.out
          have b0 : u0.cell? ⟨g1, 0, none⟩ = some (.int .i64 u) := by rw [hwr, ← HU.out]; exact HX1.out.cell 0
          have b1 : u0.cell? ⟨g1, 1, none⟩ = some (.int .i64 B.edge) := by rw [hwr]; exact HX1.out.cell 1
          have b2 : u0.cell? ⟨g1, 2, none⟩ = some (.int .i64 B.at_) := by rw [hwr]; exact HX1.out.cell 2
          have q1 : ∀ W, (Op.equalIn 10000 31 (.agg #[.int .i64 u, .int .i64 B.edge, .int .i64 B.at_]) (.agg #[.int .i64 u, .int .i64 B.edge, .int .i64 B.at_])).run Try.prog W = .ok true W := fun W => by have h_ := eq_bl13 B B W; unfold blA at h_; rw [HU.out] at h_; rw [h_]; simp [eqB]
          have HWR := Lib.hid hwr
          clear hwr
          go_upto_region 10 with fail
          go_quiet (fail)
          go_wp2
          go_meet
          exact ⟨_, by rw [HWR.out]⟩
        have e1 : (u == id) = false := by simp [hui]
        have hws : IntKind.i64.wrap ((n2 : Int) - 1) = (n2 : Int) - 1 := by rw [IntKind.wrap_i64]; omega
        have HN2' : Hid (∀ m y, m < i + 1 → t.bals[m]? = some y → (y.id == id) = false) := Lib.hid fun m y hm hy => by
          by_cases hmi : m = i
          · subst hmi
            rw [HX.out] at hy
            injection hy with hy
            rw [← hy, HU.out]
            exact e1
          · exact HNO.out m y (by omega) hy
        have HWR := Lib.hid hwr
        clear hwr d1 d2
        by_cases hla : i + 1 = n2
        · have hbs : bs = false := HBN.out (find_none13 fun m y hm hy => HN2'.out m y (by have := HN2.out; omega) hy)
          subst hbs
          have e2 : ((i : Int) == (n2 : Int) - 1) = true := by simp; omega
          go_wp2
          go_roundg (gk - 1)
          case measure => omega
          case rel => exact ⟨i + 1, by omega, by omega, by go_num, HN2', HWR.out⟩
        · have e2 : ((i : Int) == (n2 : Int) - 1) = false := by simp; omega
          go_wp2
          go_roundg (gk - 1)
          case measure => omega
          case rel => exact ⟨i + 1, by omega, by omega, by go_num, HN2', HWR.out⟩
    case rest =>
      obtain ⟨q, hcw⟩ := hcut
      obtain ⟨w3, hw3⟩ : ∃ w3, w3 = wc := ⟨_, rfl⟩
      subst hw3
      have HC3 : Hid (Below wa.heap.size wa w3) := Lib.hid (by rw [hcw]; exact below_draws HC1.out q)
      clear hcw HX1 HC1 HB2 HR1
      have HK := Lib.hid (HR3.out w3 (HT.out _ (HBA.out _ HC3.out)))
      go_wp2_with (with_reducible refine wpList_load_row (o := ⟨some 66, _, _, _, _, _⟩) rfl 27 _ rfl (w.heap.size) rfl 27 (tpC t a) (0, 0) _ ((H0.out w3 HC3.out)).raw11 Try.underlying27 rfl (by kernel_rfl) ?_)
      refine HK.out.mono ?_
      rintro e v5 ⟨_, ⟨A5, c5, rfl, hs5⟩, rfl, hb⟩
      have hm : Has (v5.alloc (.cells #[.int .i64 0, .slice none 0 0, .int .i64 0, .int .i64 0] 36)) v5.heap.size 36 #[.int .i64 0, .slice none 0 0, .int .i64 0, .int .i64 0] := Has.made _ _ _
      have HM := Lib.hid hm
      obtain ⟨u5, hu5⟩ : ∃ u_, (v5.alloc (.cells #[.int .i64 0, .slice none 0 0, .int .i64 0, .int .i64 0] 36)).setRow v5.heap.size (rtA R (.slice A5 R.path.length c5)) = u_ := ⟨_, rfl⟩
      have hbu : Below v5.heap.size v5 u5 := by rw [← hu5]; exact below_row (g := v5.heap.size) ((Below.refl _ _).alloc (Nat.le_refl _) _) (Nat.le_refl _) _
      have hx5 : Has u5 v5.heap.size 36 (rtA R (.slice A5 R.path.length c5)) := by rw [← hu5]; exact has_row11 hm _
      have hstep : Below w3.heap.size w3 u5 := hb.trans (hbu.mono hb.size)
      have HC5 := Lib.hid (HC3.out.trans (hstep.mono HC3.out.size))
      have HX5 := Lib.hid hx5
      have hp5 : PathV v5 (.slice A5 R.path.length c5) R.path := ⟨A5, c5, rfl, hs5⟩
      have HP5 := Lib.hid (hp5.under hbu)
      have HUU := Lib.hid hu5
      clear hm hbu hx5 hb hstep hu5 HK hp5 hs5
      go_upto_region 15 with (with_reducible refine wpList_store_rowTo (o := ⟨none, _, _, _, _, _⟩) rfl 36 _ _ rfl rfl (v5.heap.size) (rtA R (.slice A5 R.path.length c5)) rfl rfl 36 _ (HM.out).raw11 (by kernel_rfl) (by kernel_rfl) (by kernel_rfl) ?_)
      rw [HUU.out]
      clear HUU HM
      obtain ⟨g5, hg5⟩ : ∃ g, v5.heap.size = g := ⟨_, rfl⟩
      rw [hg5] at HX5
      simp only [hg5]
      clear hg5
      go_wp2
      go_loopg [12] n3 (fun kk v wl => ∃ i : Nat, i ≤ n3 ∧ n3 - i ≤ kk ∧ v = .int .i64 i ∧ Hid (∀ m y, m < i → t.routes[m]? = some y → (y.id == id) = false) ∧ Hid (Below u5.heap.size u5 wl))
      case atStart => exact ⟨0, by omega, by omega, rfl, Lib.hid fun m y h => absurd h (by omega), Lib.hid (Below.refl _ _)⟩
      case round =>
        obtain ⟨i, hi, hik, rfl, HNO, HBL⟩ := hrel
        have HWR := Lib.hid (HC5.out.trans (HBL.out.mono HC5.out.size))
        have c3 := KC3.out wr HWR.out
        by_cases hlt : i < n3
        rotate_left
        · have x1 : ¬ (i : Int) < n3 := by omega
          have hrs : rs = false := HRN.out (find_none13 fun m y hm hy => HNO.out m y (by have := HN3.out; omega) hy)
          subst hrs
          have c2 := KC2.out wr HWR.out
          by_cases hz : 0 < n2
          · have z1 : (n2 : Int) > 0 := by omega
            go_wp2
            go_ret
            exact ⟨by first | rfl | simp, HBA.out _ HWR.out⟩
          · have z1 : ¬ (n2 : Int) > 0 := by omega
            have hbs : bs = false := HBN.out (find_none13 fun m y hm hy => absurd hm (by have := HN2.out; omega))
            subst hbs
            go_wp2
            go_ret
            exact ⟨by first | rfl | simp, HBA.out _ HWR.out⟩
        obtain ⟨x, hx⟩ : ∃ x, t.routes[i]? = some x := ⟨_, List.getElem?_eq_getElem (by rw [HN3.out]; exact hlt)⟩
        have HX := Lib.hid hx
        obtain ⟨bk, off, PA, pc, rfl, hpa, d0, d1, d2, d3⟩ := (HSR.out.under (HBA.out wr HWR.out)).at_ hx
        have HPX := Lib.hid (show PathV wr (.slice PA x.path.length pc) x.path from ⟨PA, pc, rfl, hpa⟩)
        have KD := Lib.hid (fun W (hW : Below wr.heap.size wr W) => (show W.cell? ⟨bk, off + i * 4, none⟩ = some (.int .i64 x.id) ∧ W.cell? ⟨bk, off + i * 4 + 1, none⟩ = some (.slice PA x.path.length pc) ∧ W.cell? ⟨bk, off + i * 4 + 2, none⟩ = some (.int .i64 x.gap) ∧ W.cell? ⟨bk, off + i * 4 + 3, none⟩ = some (.int .i64 x.timer) from ⟨(hW.cell (cell_block d0)).trans d0, (hW.cell (cell_block d1)).trans d1, (hW.cell (cell_block d2)).trans d2, (hW.cell (cell_block d3)).trans d3⟩))
        have HXR := Lib.hid (HX5.out.under HBL.out HX5.out.lt)
        have HPR := Lib.hid (HP5.out.under HBL.out)
        have y0 : (0 : Int) ≤ i := by omega
        have y1 : (i : Int) < n3 := by omega
        obtain ⟨sm, hsm⟩ : ∃ b, sameR R x = b := ⟨_, rfl⟩
        have HSM := Lib.hid hsm
        have HCS := Lib.hid (fun W (hW : Below wr.heap.size wr W) => rsame_any13 R x (.slice A5 R.path.length c5) (.slice PA x.path.length pc) W (HPR.out.under hW) (HPX.out.under hW) HPL.out)
        rw [hsm] at HCS
        clear hx hpa d0 d1 d2 d3 hsm
        go_upto_region 18 with fail
        clear c3
        refine wp_region_held_drew (S := (fun W_ => Has W_ (g5) 36 (rtA R (.slice A5 R.path.length c5)) ∧ Below wr.heap.size wr W_)) (by kernel_rfl) ?_ (fun hHeld => ?_)
        · exact ⟨HXR.out.draw, below_dr11 (Below.refl _ _)⟩
        refine wpAnyH_take (i := 0) (oi := ⟨some 78, _, _, _, _, _⟩) (v := .agg (rtA R (.slice A5 R.path.length c5))) rfl (by kernel_rfl) (by kernel_rfl) (by kernel_rfl) (fun _ _ _ h => h) (yields_load_row11 36 _ rfl (g5) rfl 36 (rtA R (.slice A5 R.path.length c5)) _ (fun _ ⟨h_, _⟩ => h_) Try.underlying36 rfl (by kernel_rfl) (by rfl)) (by assumption) ?_
        simp only [Act.put, List.setIfInBounds_toArray, List.set_cons_zero, List.set_cons_succ]
        refine wpAnyH_take (i := 1) (oi := ⟨some 79, _, _, _, _, _⟩) (v := ?_) rfl (by kernel_rfl) (by kernel_rfl) (by kernel_rfl) (fun _ _ _ h => h) (Or.inl ⟨by rfl, ?_⟩) (by assumption) ?_
        rotate_left
        · intro w_ hSw; (try dsimp only at hSw); go_simp <;> with_reducible rfl
        simp only [Act.put, List.setIfInBounds_toArray, List.set_cons_zero, List.set_cons_succ]
        refine wpAnyH_take (i := 2) (oi := ⟨some 80, _, _, _, _, _⟩) (v := ?_) rfl (by kernel_rfl) (by kernel_rfl) (by kernel_rfl) (fun _ _ _ h => h) (Or.inl ⟨by rfl, ?_⟩) (by assumption) ?_
        rotate_left
        · intro w_ hSw; (try dsimp only at hSw); have c3_ := KC3.out w_ (HWR.out.trans (hSw.2.mono HWR.out.size)); go_simp <;> with_reducible rfl
        simp only [Act.put, List.setIfInBounds_toArray, List.set_cons_zero, List.set_cons_succ]
        refine wpAnyH_take (i := 3) (oi := ⟨some 81, _, _, _, _, _⟩) (v := ?_) rfl (by kernel_rfl) (by kernel_rfl) (by kernel_rfl) (fun _ _ _ h => h) (Or.inl ⟨by rfl, ?_⟩) (by assumption) ?_
        rotate_left
        · intro w_ hSw; (try dsimp only at hSw); go_simp <;> with_reducible rfl
        simp only [Act.put, List.setIfInBounds_toArray, List.set_cons_zero, List.set_cons_succ]
        refine wpAnyH_take (i := 4) (oi := ⟨some 82, _, _, _, _, _⟩) (v := ?_) rfl (by kernel_rfl) (by kernel_rfl) (by kernel_rfl) (fun _ _ _ h => h) (Or.inl ⟨by rfl, ?_⟩) (by assumption) ?_
        rotate_left
        · intro w_ hSw; (try dsimp only at hSw); go_simp <;> with_reducible rfl
        simp only [Act.put, List.setIfInBounds_toArray, List.set_cons_zero, List.set_cons_succ]
        refine wpAnyH_take (i := 5) (oi := ⟨some 83, _, _, _, _, _⟩) (v := ?_) rfl (by kernel_rfl) (by kernel_rfl) (by kernel_rfl) (fun _ _ _ h => h) (Or.inl ⟨by rfl, ?_⟩) (by assumption) ?_
        rotate_left
        · intro w_ hSw; (try dsimp only at hSw); obtain ⟨cx0_, cx1_, cx2_, cx3_⟩ := KD.out w_ hSw.2; go_simp <;> with_reducible rfl
        simp only [Act.put, List.setIfInBounds_toArray, List.set_cons_zero, List.set_cons_succ]
        refine wpAnyH_ready (rs := [6]) (by kernel_rfl) (by simp) ?_
        refine AllReadyH.cons (o := ⟨some 84, _, _, _, _, _⟩) rfl (fun K hK => ?_) ?_
        · go_simp
          obtain ⟨s0, s1⟩ := hHeld
          have hk_ := HCS.out _ s1
          unfold rtA at hk_
          refine hk_.mono ?_
          rintro e_ vs ⟨rfl, hbs⟩
          go_wp2_with fail
          refine hK.out _ _ ?_ (fun hHeld => ?_)
          · exact ⟨s0.under hbs s0.lt, s1.trans (hbs.mono s1.size)⟩
          clear hK K s0 s1
          try simp only [Act.put, List.setIfInBounds_toArray, List.set_cons_zero, List.set_cons_succ]
          refine wpAnyH_take (i := 7) (oi := ⟨some 13, _, _, _, _, _⟩) (v := ?_) rfl (by kernel_rfl) (by kernel_rfl) (by kernel_rfl) (fun _ _ _ h => h) (Or.inl ⟨by rfl, ?_⟩) (by assumption) ?_
          rotate_left
          · intro w_ hSw; (try dsimp only at hSw); go_simp <;> with_reducible rfl
          simp only [Act.put, List.setIfInBounds_toArray, List.set_cons_zero, List.set_cons_succ]
          refine wpAnyH_done (by kernel_rfl) ?_ _
          have HV := Lib.hid (HWR.out.trans (hHeld.2.mono HWR.out.size))
          have HBV2 := Lib.hid (HBL.out.trans (hHeld.2.mono HBL.out.size))
          obtain ⟨d0, -, -, -⟩ := KD.out vs hHeld.2
          have c3 := KC3.out vs HV.out
          clear hHeld
          obtain ⟨u, hu⟩ : ∃ u, x.id = u := ⟨_, rfl⟩
          have HU := Lib.hid hu
          rw [hu] at d0
          clear hu
          by_cases hui : u = id
          · subst hui
            have HF := Lib.hid (show routeF t u = some x from find_at13 HX.out (by show (x.id == u) = true; rw [HU.out]; simp) HNO.out)
            obtain ⟨hRx, rfl⟩ := HRV.out x HF.out
            obtain rfl : sm = true := by rw [← HSM.out]; exact (sameR_iff R x).2 hRx
            clear hRx
            go_wp2
            go_ret
            exact ⟨by first | rfl | simp, HBA.out _ HV.out⟩
          have e1 : (u == id) = false := by simp [hui]
          have HN3' : Hid (∀ m y, m < i + 1 → t.routes[m]? = some y → (y.id == id) = false) := Lib.hid fun m y hm hy => by
            by_cases hmi : m = i
            · subst hmi
              rw [HX.out] at hy
              injection hy with hy
              rw [← hy, HU.out]
              exact e1
            · exact HNO.out m y (by omega) hy
          go_wp2
          go_roundg (gk - 1)
          case measure => omega
          case rel => exact ⟨i + 1, by omega, by omega, by go_num, HN3', HBV2⟩
        exact AllReadyH.nil

end Go.Proofs.Ytkigdeohlomgiaa
