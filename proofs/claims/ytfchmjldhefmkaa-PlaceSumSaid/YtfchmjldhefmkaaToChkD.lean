/-
  package topo as landed: checkRoute.
-/
import Derived.Test.YtfchmjldhefmkaaToLen

import Derived.Test.YtfchmjldhefmkaaToChkC

import Derived.BigQuiet

import Derived.IntWalk

namespace Go.Proofs.Ytfchmjldhefmkaa

open Go.RowKit

open Go.Great

theorem routeE_w (t : Tp3) (r : Rt3) : routeE t r = if r.id < 1 then 1 else if 8 < r.path.length then 1 else if twiceB r.path = true then 1 else if lenE t r.path = 0 then (if withinB r.gap 0 (lenN t r.path - 1) = true then (if withinB r.timer 1 1000 = true then (if (r.path.all (hasBal t)) = true then 0 else 4) else 1) else 1) else lenE t r.path := by
  unfold routeE
  by_cases h1 : r.id < 1
  · rw [if_pos (.inl h1), if_pos h1]
  · rw [if_neg h1]
    by_cases h2 : 8 < r.path.length
    · rw [if_pos (.inr (.inr h2)), if_pos h2]
    · rw [if_neg h2]
      by_cases h3 : r.path.length = 0
      · rw [if_pos (.inr (.inl h3))]
        have hp : r.path = [] := List.eq_nil_of_length_eq_zero h3
        have ht : twiceB r.path = false := by rw [hp]; rfl
        have hl : lenE t r.path = 1 := by unfold lenE; rw [if_pos (.inl h3)]
        rw [ht, if_neg (by decide), hl, if_neg (by decide)]
      · rw [if_neg (by omega)]
        cases ht : twiceB r.path with
        | true => rw [if_neg (by simp), if_pos rfl]
        | false =>
          rw [if_neg (c := false = true) (by decide)]
          cases ha : (r.path.all fun s => edgeB t s.edge) with
          | false =>
            have hl : lenE t r.path = 1 := by unfold lenE; rw [if_neg (by omega), ha, if_neg (by decide)]
            rw [if_neg (by decide), hl, if_neg (by decide)]
          | true =>
            rw [if_pos (by decide)]
            by_cases h4 : lenE t r.path = 0
            · rw [if_pos h4, if_pos h4]
              cases hg : withinB r.gap 0 (lenN t r.path - 1) with
              | false =>
                rw [if_neg (c := false = true) (by decide), if_pos]
                unfold withinB at hg
                simp only [Bool.and_eq_false_iff, decide_eq_false_iff_not] at hg
                omega
              | true =>
                rw [if_pos rfl]
                unfold withinB at hg
                simp only [Bool.and_eq_true, decide_eq_true_eq] at hg
                cases hr : withinB r.timer 1 1000 with
                | false =>
                  rw [if_neg (c := false = true) (by decide), if_pos]
                  unfold withinB at hr
                  simp only [Bool.and_eq_false_iff, decide_eq_false_iff_not] at hr
                  omega
                | true =>
                  unfold withinB at hr
                  simp only [Bool.and_eq_true, decide_eq_true_eq] at hr
                  rw [if_pos rfl, if_neg (by omega)]
            · rw [if_neg h4, if_neg h4]

set_option maxRecDepth 100000 in
set_option maxHeartbeats 8000000 in
theorem otcr_any (t : Tp3) (a : TpA) (i : Nat) (r : Rt3) (w : World) (ht : TopR w t a) (hl : lightT t = true) (hok : edgesOk t = true) (hr : t.routes[i]? = some r) :
    Calls Try.prog 55 #[.agg (tpC t a), .int .i64 i] w fun e w' => e = .returned (.int .i64 (routeAt t i)) ∧ Below w.heap.size w w' := by
  have hlg := light_nums13 hl
  obtain ⟨wa, hwa⟩ : ∃ wa, w.alloc (.cells (tpC t a) 27) = wa := ⟨_, rfl⟩
  have hbwa : Below w.heap.size w wa := by rw [← hwa]; exact (Below.refl _ _).alloc (Nat.le_refl _) _
  have h0 : Has wa (w.heap.size) 27 (tpC t a) := by rw [← hwa]; exact (Has.made _ _ _)
  have HWA := Lib.hid hwa; have HBWA := Lib.hid hbwa
  have hil := (List.getElem?_eq_some_iff.1 hr).1
  have hpl := hlg.2.2.2.2 r (List.mem_of_getElem? hr)
  rw [routeAt_at hr, routeE_w]
  have hix := idx_take (p := fun y : Rt3 => y.id == r.id) hr (by simp)
  have HFR := Lib.hid (fun W (hW : Below w.heap.size w W) => otfindroute_any t a r.id W (ht.under hW) (by have := hlg.2.2.2.1; omega))
  obtain ⟨nr, hnr⟩ : ∃ n, t.routes.length = n := ⟨_, rfl⟩
  obtain ⟨AR, hAR⟩ : ∃ A, a.ar = A := ⟨_, rfl⟩
  have hrs : RtsR w AR nr a.cr t.routes := by rw [← hAR, ← hnr]; exact ht.r
  obtain ⟨bk, off, PA, pc, rfl, hpa, d0, d1, d2, d3, hcap⟩ := hrs.cap_at hr
  have HRP := Lib.hid (fun W (hW : Below w.heap.size w W) => otrep_any r.path PA r.path.length pc W (hpa.under hW) (by omega) hcap)
  have HLE := Lib.hid (fun W (hW : Below w.heap.size w W) => otp_length t a r.path PA r.path.length pc W (ht.under hW) (hpa.under hW) (by omega) hl hok)
  have HHB := Lib.hid (fun W (hW : Below w.heap.size w W) => othave_any t a r.path PA r.path.length pc W (ht.under hW) hlg.2.2.1 (hpa.under hW) (by omega))
  have HWG := Lib.hid (fun W => otwithin_b r.gap 0 (lenN t r.path - 1) W)
  have HWT := Lib.hid (fun W => otwithin_b r.timer 1 1000 W)
  have HLB := Lib.hid (show lenE t r.path = 0 → 0 ≤ lenN t r.path ∧ lenN t r.path ≤ 40000000 from fun h => by
    have h0_ := h
    unfold lenE at h0_
    split at h0_
    · exact absurd h0_ (by decide)
    · rename_i h1_
      split at h0_
      · rename_i h2_
        rw [List.all_eq_true] at h2_
        have := sum_ok hok h2_
        unfold lenN
        rw [if_pos h]
        omega
      · exact absurd h0_ (by decide))
  have c3 : wa.cell? ⟨w.heap.size, 3, none⟩ = some (.slice (some ⟨bk, off, none⟩) nr a.cr) := by rw [← hnr, ← hAR]; exact h0.cell 3
  have f0 := (hbwa.cell (cell_block d0)).trans d0
  have f1 := (hbwa.cell (cell_block d1)).trans d1
  have f2 := (hbwa.cell (cell_block d2)).trans d2
  have f3 := (hbwa.cell (cell_block d3)).trans d3
  have HBA := Lib.hid (fun W (hW : Below wa.heap.size wa W) => hbwa.trans (hW.mono hbwa.size))
  have HH0 := Lib.hid h0
  have y0 : (0 : Int) ≤ i := by omega
  have y1 : (i : Int) < nr := by omega
  obtain ⟨R, hR⟩ : ∃ R, idxL (fun y : Rt3 => y.id == r.id) t.routes = R := ⟨_, rfl⟩
  rw [hR] at hix HFR
  obtain ⟨kk, hkk⟩ : ∃ x, ((t.routes.take i).any fun y : Rt3 => y.id == r.id) = x := ⟨_, rfl⟩
  rw [hkk] at hix
  have HIX := Lib.hid hix
  obtain ⟨tw, htw⟩ : ∃ x, twiceB r.path = x := ⟨_, rfl⟩
  obtain ⟨le, hle⟩ : ∃ x, lenE t r.path = x := ⟨_, rfl⟩
  obtain ⟨ln, hln⟩ : ∃ x, lenN t r.path = x := ⟨_, rfl⟩
  rw [hln] at HWG
  obtain ⟨bg, hbg⟩ : ∃ x, withinB r.gap 0 (ln - 1) = x := ⟨_, rfl⟩
  obtain ⟨bt, hbt⟩ : ∃ x, withinB r.timer 1 1000 = x := ⟨_, rfl⟩
  obtain ⟨hb, hhb⟩ : ∃ x, r.path.all (hasBal t) = x := ⟨_, rfl⟩
  rw [htw] at HRP
  rw [hle, hln] at HLE HLB
  rw [hbg] at HWG
  rw [hbt] at HWT
  rw [hhb] at HHB
  rw [hkk, htw, hle, hln, hbg, hbt, hhb]
  obtain ⟨V, hV⟩ : ∃ V : Int, (if (if r.id < 1 then (1 : Int) else if 8 < r.path.length then 1 else if tw = true then 1 else if le = 0 then (if bg = true then (if bt = true then (if hb = true then 0 else 4) else 1) else 1) else le) = 0 then (if kk = true then 5 else 0) else (if r.id < 1 then (1 : Int) else if 8 < r.path.length then 1 else if tw = true then 1 else if le = 0 then (if bg = true then (if bt = true then (if hb = true then 0 else 4) else 1) else 1) else le)) = V := ⟨_, rfl⟩
  rw [hV]
  have HV := Lib.hid hV
  clear hV
  clear hwa hbwa h0 ht hl hok hlg hr hrs hil hnr hAR hix hR hkk htw hle hln hbg hbt hhb hpa hcap d0 d1 d2 d3
  obtain ⟨rl, hrl⟩ : ∃ n, r.path.length = n := ⟨_, rfl⟩
  rw [hrl] at HRP HLE HHB f1 hpl HV
  clear hrl
  obtain ⟨ri, rp, rg, rt⟩ := r
  dsimp only at *
  go_enter Try.func55, Try.ntmps55
  go_upto_region 1 with fail
  rw [HWA.out]
  clear HWA
  go_upto_region 2 with fail
  obtain ⟨wb, hwb⟩ : ∃ wb, wa.alloc (.cells #[.int .i64 ri, .slice PA rl pc, .int .i64 rg, .int .i64 rt] 52) = wb := ⟨_, rfl⟩
  rw [hwb]
  have hbb : Below wa.heap.size wa wb := by rw [← hwb]; exact (Below.refl _ _).alloc (Nat.le_refl _) _
  have hX : Has wb wa.heap.size 52 #[.int .i64 ri, .slice PA rl pc, .int .i64 rg, .int .i64 rt] := by rw [← hwb]; exact Has.made _ _ _
  have HB0 := Lib.hid (HH0.out.under hbb HH0.out.lt)
  have HBB := Lib.hid (HBA.out _ hbb)
  obtain ⟨g5, hg5⟩ : ∃ g, wa.heap.size = g := ⟨_, rfl⟩
  rw [hg5] at hX
  simp only [hg5]
  have HX := Lib.hid hX
  clear hwb hbb hX hg5 f0 f1 f2 f3 c3 HH0 HBA
  have e0 : wb.cell? ⟨g5, 0, none⟩ = some (.int .i64 ri) := HX.out.cell 0
  have e1 : wb.cell? ⟨g5, 1, none⟩ = some (.slice PA rl pc) := HX.out.cell 1
  by_cases h1 : ri < 1
  · skip
    have HVV : Hid (V = 1) := Lib.hid (by rw [← HV.out]; simp [h1])
    go_wp2
    go_ret
    exact ⟨by rw [HVV.out]; rfl, HBB.out⟩
  by_cases h2 : 8 < rl
  · have h3 : (rl : Int) > 8 := by omega
    have HVV : Hid (V = 1) := Lib.hid (by rw [← HV.out]; simp [h1, h2])
    go_wp2
    go_ret
    exact ⟨by rw [HVV.out]; rfl, HBB.out⟩
  have hv2 := HV.out
  rw [if_neg h1, if_neg h2] at hv2
  have HVB := Lib.hid hv2
  clear hv2 HV
  have h3 : ¬ (rl : Int) > 8 := by omega
  have HA := Lib.hid (HRP.out wb HBB.out)
  clear HRP
  go_wp2_with fail
  refine HA.out.mono ?_
  rintro e w2 ⟨rfl, hb2⟩
  have HX2 := Lib.hid (HX.out.under hb2 HX.out.lt)
  have HB20 := Lib.hid (HB0.out.under hb2 HB0.out.lt)
  have HBB2 := Lib.hid (HBB.out.trans (hb2.mono HBB.out.size))
  clear hb2 HA h1 h2 h3 e0 e1 HX HB0 HBB
  cases tw with
  | true =>
    have HVV : Hid (V = 1) := Lib.hid (by rw [← HVB.out]; simp)
    go_wp2
    go_ret
    exact ⟨by rw [HVV.out]; rfl, HBB2.out⟩
  | false =>
    have e1 : w2.cell? ⟨g5, 1, none⟩ = some (.slice PA rl pc) := HX2.out.cell 1
    have HA := Lib.hid (HLE.out w2 HBB2.out)
    clear HLE
    go_upto_region 4 with fail
    go_wp2_with (with_reducible refine wpList_load_row (o := ⟨some 28, _, _, _, _, _⟩) rfl 27 _ rfl (w.heap.size) rfl 27 (tpC t a) (0, 0) _ (HB20.out).raw11 Try.underlying27 rfl (by kernel_rfl) ?_)
    refine HA.out.mono ?_
    rintro e w3 ⟨rfl, hb3⟩
    have HX3 := Lib.hid (HX2.out.under hb3 HX2.out.lt)
    have HB30 := Lib.hid (HB20.out.under hb3 HB20.out.lt)
    have HBB3 := Lib.hid (HBB2.out.trans (hb3.mono HBB2.out.size))
    clear hb3 HA e1 HX2 HB20 HBB2
    by_cases h4 : le = 0
    rotate_left
    · have n1 : (le == 0) = false := by simp [h4]
      have n2 : (le != 0) = true := by simp [h4]
      have HVV : Hid (V = le) := Lib.hid (by rw [← HVB.out]; simp [h4])
      go_wp2
      go_ret
      exact ⟨by rw [HVV.out]; rfl, HBB3.out⟩
    have hln := HLB.out h4
    subst h4
    have hws : IntKind.i64.wrap (ln - 1) = ln - 1 := by rw [IntKind.wrap_i64]; omega
    clear HLB hln
    have e2 : w3.cell? ⟨g5, 2, none⟩ = some (.int .i64 rg) := HX3.out.cell 2
    go_wp2_with fail
    refine (HWG.out _).mono ?_
    rintro e w4 ⟨rfl, hb4⟩
    have HX4 := Lib.hid (HX3.out.under hb4 HX3.out.lt)
    have HB40 := Lib.hid (HB30.out.under hb4 HB30.out.lt)
    have HBB4 := Lib.hid (HBB3.out.trans (hb4.mono HBB3.out.size))
    clear hb4 e2 HX3 HB30 HBB3 HWG hws
    cases bg with
    | false =>
      have HVV : Hid (V = 1) := Lib.hid (by rw [← HVB.out]; simp)
      go_wp2
      go_ret
      exact ⟨by rw [HVV.out]; rfl, HBB4.out⟩
    | true =>
      have e3 : w4.cell? ⟨g5, 3, none⟩ = some (.int .i64 rt) := HX4.out.cell 3
      go_wp2_with fail
      refine (HWT.out _).mono ?_
      rintro e w5 ⟨rfl, hb5⟩
      have HX5 := Lib.hid (HX4.out.under hb5 HX4.out.lt)
      have HB50 := Lib.hid (HB40.out.under hb5 HB40.out.lt)
      have HBB5 := Lib.hid (HBB4.out.trans (hb5.mono HBB4.out.size))
      clear hb5 e3 HX4 HB40 HBB4 HWT
      cases bt with
      | false =>
        have HVV : Hid (V = 1) := Lib.hid (by rw [← HVB.out]; simp)
        go_wp2
        go_ret
        exact ⟨by rw [HVV.out]; rfl, HBB5.out⟩
      | true =>
        have e1 : w5.cell? ⟨g5, 1, none⟩ = some (.slice PA rl pc) := HX5.out.cell 1
        have HA := Lib.hid (HHB.out w5 HBB5.out)
        clear HHB
        go_upto_region 9 with fail
        go_wp2_with (with_reducible refine wpList_load_row (o := ⟨some 52, _, _, _, _, _⟩) rfl 27 _ rfl (w.heap.size) rfl 27 (tpC t a) (0, 0) _ (HB50.out).raw11 Try.underlying27 rfl (by kernel_rfl) ?_)
        refine HA.out.mono ?_
        rintro e w6 ⟨rfl, hb6⟩
        have HX6 := Lib.hid (HX5.out.under hb6 HX5.out.lt)
        have HB60 := Lib.hid (HB50.out.under hb6 HB50.out.lt)
        have HBB6 := Lib.hid (HBB5.out.trans (hb6.mono HBB5.out.size))
        clear hb6 HA e1 HX5 HB50 HBB5
        cases hb with
        | false =>
          have HVV : Hid (V = 4) := Lib.hid (by rw [← HVB.out]; simp)
          go_wp2
          go_ret
          exact ⟨by rw [HVV.out]; rfl, HBB6.out⟩
        | true =>
          have e0 : w6.cell? ⟨g5, 0, none⟩ = some (.int .i64 ri) := HX6.out.cell 0
          have HA := Lib.hid (HFR.out w6 HBB6.out)
          clear HFR
          go_upto_region 11 with fail
          go_wp2_with (with_reducible refine wpList_load_row (o := ⟨some 58, _, _, _, _, _⟩) rfl 27 _ rfl (w.heap.size) rfl 27 (tpC t a) (0, 0) _ (HB60.out).raw11 Try.underlying27 rfl (by kernel_rfl) ?_)
          refine HA.out.mono ?_
          rintro e w7 ⟨rfl, hb7⟩
          have HBB7 := Lib.hid (HBB6.out.trans (hb7.mono HBB6.out.size))
          have hlt := HIX.out
          clear hb7 HA e0 HX6 HB60 HBB6
          cases kk with
          | true =>
            have hlt2 : R < (i : Int) := by simpa using hlt
            have HVV : Hid (V = 5) := Lib.hid (by rw [← HVB.out]; simp)
            clear hlt
            go_wp2
            go_ret
            exact ⟨by rw [HVV.out]; rfl, HBB7.out⟩
          | false =>
            have hlt2 : ¬ R < (i : Int) := by simpa using hlt
            have HVV : Hid (V = 0) := Lib.hid (by rw [← HVB.out]; simp)
            clear hlt
            go_wp2
            go_ret
            exact ⟨by rw [HVV.out]; rfl, HBB7.out⟩

end Go.Proofs.Ytfchmjldhefmkaa
