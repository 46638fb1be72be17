/-
  package topo as landed: Length of any light track, its error.
-/
import Derived.Test.YteioefgckigbcaaToLen

import Derived.BigQuiet

import Derived.IntWalk

namespace Go.Proofs.Yteioefgckigbcaa

open Go.RowKit

open Go.Great

set_option maxRecDepth 100000 in
set_option maxHeartbeats 8000000 in
theorem otp_length_e (t : Tp3) (a : TpA) (path : List St3) (A : Option Addr) (n c : Nat) (w : World) (ht : TopR w t a) (hp : SlO stC 2 w A n c path) (hn : n ≤ 1048576) (hl : lightT t = true) : Calls Try.prog 42 #[.agg (tpC t a), .slice A n c] w fun e w' => ∃ N : Int, e = .returned (.tuple #[.int .i64 N, .int .i64 (lenE t path)]) ∧ Below w.heap.size w w' := by
  have hlg := light_nums13 hl
  obtain ⟨wa, hwa⟩ : ∃ wa, w.alloc (.cells (tpC t a) 27) = wa := ⟨_, rfl⟩
  have hbwa : Below w.heap.size w wa := by rw [← hwa]; exact (Below.refl _ _).alloc (Nat.le_refl _) _
  have h0 : Has wa (w.heap.size) 27 (tpC t a) := by rw [← hwa]; exact (Has.made _ _ _)
  have HWA := Lib.hid hwa; have HBWA := Lib.hid hbwa
  have H0 := Lib.hid (fun W (hW : Below wa.heap.size wa W) => h0.under hW h0.lt)
  have HT := Lib.hid (fun W (hW : Below w.heap.size w W) => ht.under hW)
  have HP := Lib.hid (fun W (hW : Below w.heap.size w W) => hp.under hW)
  have HBA := Lib.hid (fun W (hW : Below wa.heap.size wa W) => hbwa.trans (hW.mono hbwa.size))
  have HLN := Lib.hid hp.1
  have HL := Lib.hid hlg.1; have HJ := Lib.hid hlg.2.1
  obtain ⟨rE, hrE⟩ : ∃ r, lenE t path = r := ⟨_, rfl⟩
  have HRE := Lib.hid hrE
  rw [hrE]
  have HWI := Lib.hid (fun W => otwithin_any n 1 40 W)
  obtain ⟨b1, hb1⟩ : ∃ b, withinB n 1 40 = b := ⟨_, rfl⟩
  rw [hb1] at HWI
  have HB1 : Hid (withinB n 1 40 = b1) := Lib.hid hb1
  have HEE := Lib.hid (fun W (hW : Below w.heap.size w W) => otedges_any t a path A n c W (hp.under hW) hn hlg.1)
  obtain ⟨b2, hb2⟩ : ∃ b, (path.all fun s => edgeB t s.edge) = b := ⟨_, rfl⟩
  rw [hb2] at HEE
  have HB2 := Lib.hid hb2
  have HNB := Lib.hid hn
  clear hwa hbwa h0 ht hp hrE hl hlg hb1 hb2 hn
  cases b1 with
  | false =>
    go_enter Try.func42, Try.ntmps42
    go_upto_region 1 with fail
    rw [HWA.out]
    clear HWA
    go_wp2_with fail
    refine (HWI.out _).mono ?_
    rintro e w1 ⟨rfl, hw1⟩
    rw [hw1]
    clear hw1
    go_wp2
    go_ret2
    have hE : lenE t path = 1 := by unfold lenE; rw [if_pos (by have h_ := HB1.out; unfold withinB at h_; simp only [Bool.and_eq_false_iff, decide_eq_false_iff_not] at h_; have := HLN.out; omega)]
    have e2_ : rE = 1 := by rw [← HRE.out]; exact hE
    subst e2_
    first | exact ⟨_, rfl, HBWA.out⟩ | exact ⟨⟨_, rfl⟩, HBWA.out⟩
  | true =>
    cases b2 with
    | false =>
      go_enter Try.func42, Try.ntmps42
      go_upto_region 1 with fail
      rw [HWA.out]
      clear HWA
      go_wp2_with fail
      refine (HWI.out _).mono ?_
      rintro e w1 ⟨rfl, hw1⟩
      rw [hw1]
      clear hw1
      go_wp2_with ((with_reducible refine at_slot11 15 ?_); refine wpList_load_rowW11 (o := ⟨some 15, _, _, _, _, _⟩) 27 _ rfl (by kernel_rfl) (w.heap.size) rfl 27 (tpC t a) (0, 0) _ ((H0.out _ (Below.refl _ _))).raw11 Try.underlying27 rfl (by kernel_rfl) ?_)
      refine (HEE.out _ HBWA.out).mono ?_
      rintro e w2 ⟨rfl, hbw2⟩
      have HB3 := Lib.hid (HBWA.out.trans (hbw2.mono HBWA.out.size))
      clear hbw2
      go_wp2
      go_ret2
      have hE : lenE t path = 1 := by unfold lenE; rw [if_neg (by have h_ := HB1.out; unfold withinB at h_; simp only [Bool.and_eq_true, decide_eq_true_eq] at h_; have := HLN.out; omega), HB2.out]; rfl
      have e2_ : rE = 1 := by rw [← HRE.out]; exact hE
      subst e2_
      first | exact ⟨_, rfl, HB3.out⟩ | exact ⟨⟨_, rfl⟩, HB3.out⟩
    | true =>
      go_enter Try.func42, Try.ntmps42
      go_upto_region 1 with fail
      rw [HWA.out]
      clear HWA
      go_wp2_with fail
      refine (HWI.out _).mono ?_
      rintro e w1 ⟨rfl, hw1⟩
      rw [hw1]
      clear hw1
      go_wp2_with ((with_reducible refine at_slot11 15 ?_); refine wpList_load_rowW11 (o := ⟨some 15, _, _, _, _, _⟩) 27 _ rfl (by kernel_rfl) (w.heap.size) rfl 27 (tpC t a) (0, 0) _ ((H0.out _ (Below.refl _ _))).raw11 Try.underlying27 rfl (by kernel_rfl) ?_)
      refine (HEE.out _ HBWA.out).mono ?_
      rintro e w2 ⟨rfl, hbw2⟩
      have HBW := Lib.hid hbw2
      have HALL : Hid (∀ s ∈ path, edgeB t s.edge = true) := Lib.hid (List.all_eq_true.1 HB2.out)
      have HNZ : Hid (1 ≤ n ∧ n ≤ 40) := Lib.hid (by have h_ := HB1.out; unfold withinB at h_; simp only [Bool.and_eq_true, decide_eq_true_eq] at h_; omega)
      have HWY := Lib.hid (otway_any t a path A n c w2 (HT.out _ (HBA.out _ hbw2)) (HP.out _ (HBA.out _ hbw2)) HNB.out HNZ.out.1 HL.out HJ.out HALL.out)
      obtain ⟨b3, hb3⟩ : ∃ b, wayB t path = b := ⟨_, rfl⟩
      rw [hb3] at HWY
      have HB3 := Lib.hid hb3
      clear hbw2 hb3
      go_wp2_with (with_reducible refine wpList_load_row (o := ⟨some 21, _, _, _, _, _⟩) rfl 27 _ rfl (w.heap.size) rfl 27 (tpC t a) (0, 0) _ ((H0.out _ HBW.out)).raw11 Try.underlying27 rfl (by kernel_rfl) ?_)
      refine HWY.out.mono ?_
      rintro e w3 ⟨rfl, hbw3⟩
      have HW3 := Lib.hid (HBW.out.trans (hbw3.mono HBW.out.size))
      clear hbw3 HWY HBW
      cases b3 with
      | false =>
        go_wp2
        go_ret2
        have hE : lenE t path = 141 := by unfold lenE; rw [if_neg (by have h_ := HB1.out; unfold withinB at h_; simp only [Bool.and_eq_true, decide_eq_true_eq] at h_; have := HLN.out; omega), HB2.out, if_pos rfl, HB3.out]; rfl
        have e2_ : rE = 141 := by rw [← HRE.out]; exact hE
        subst e2_
        first | exact ⟨_, rfl, HBA.out _ HW3.out⟩ | exact ⟨⟨_, rfl⟩, HBA.out _ HW3.out⟩
      | true =>
        have HE0 : Hid (lenE t path = 0) := Lib.hid (by unfold lenE; rw [if_neg (by have h_ := HB1.out; unfold withinB at h_; simp only [Bool.and_eq_true, decide_eq_true_eq] at h_; have := HLN.out; omega), HB2.out, if_pos rfl, HB3.out]; rfl)
        clear HB1 HB2 HB3 HWI HEE
        go_wp2
        go_loopg [6, 27] n (fun kk v6 v27 wl => ∃ i : Nat, i ≤ n ∧ n - i ≤ kk ∧ v27 = .int .i64 i ∧ (∃ sv : Int, v6 = .int .i64 sv) ∧ Hid (Below wa.heap.size wa wl))
        case atStart => exact ⟨0, by omega, by omega, rfl, ⟨0, rfl⟩, HW3⟩
        case round =>
          obtain ⟨i, hi, hik, rfl, ⟨sv, rfl⟩, HWR⟩ := hrel
          by_cases hlt : i < n
          rotate_left
          · obtain rfl : i = n := by omega
            have x1 : ¬ (i : Int) < i := by omega
            have hti : path.take i = path := List.take_of_length_le (by have := HLN.out; omega)
            clear hti
            go_wp2
            go_ret2
            have e2_ : rE = 0 := HRE.out.symm.trans HE0.out
            subst e2_
            first | exact ⟨_, rfl, HBA.out _ HWR.out⟩ | exact ⟨⟨_, rfl⟩, HBA.out _ HWR.out⟩
          obtain ⟨x, hx⟩ : ∃ x, path[i]? = some x := ⟨_, List.getElem?_eq_getElem (by have := HLN.out; omega)⟩
          have HX := Lib.hid hx
          have hex := HALL.out x (List.mem_of_getElem? hx)
          have hed : 0 ≤ x.edge ∧ x.edge < t.edges.length := by have h_ := hex; unfold edgeB at h_; simpa using h_
          obtain ⟨e, hee⟩ : ∃ e : Nat, x.edge = e := ⟨x.edge.toNat, by omega⟩
          have hel : e < t.edges.length := by omega
          obtain ⟨q, hq⟩ : ∃ q, t.edges.getD e 0 = q := ⟨_, rfl⟩
          have HQ := Lib.hid hq; have HHE := Lib.hid hee; have HEL := Lib.hid hel
          obtain ⟨bk, off, rfl, d0, d1⟩ := (HP.out _ (HBA.out _ HWR.out)).step hx
          rw [hee] at d0
          have y0 : (0 : Int) ≤ i := by omega
          have y1 : (i : Int) < n := by omega
          have y2 : (i : Int) < 40 := by have := HNZ.out; omega
          clear hx hex hed hee hel hq
          go_upto_region 9 with fail
          obtain ⟨wb, hwb⟩ : ∃ wb, wr.alloc (.cells #[.int .i64 (e : Nat), .bool x.rev] 75) = wb := ⟨_, rfl⟩
          rw [hwb]
          have hbb : Below wr.heap.size wr wb := by rw [← hwb]; exact (Below.refl _ _).alloc (Nat.le_refl _) _
          have hH : Has wb wr.heap.size 75 #[.int .i64 (e : Nat), .bool x.rev] := by rw [← hwb]; exact Has.made _ _ _
          have HWB := Lib.hid (HWR.out.trans (hbb.mono HWR.out.size))
          have hc0 : wb.cell? ⟨wr.heap.size, 0, none⟩ = some (.int .i64 (e : Nat)) := hH.cell 0
          obtain ⟨be, oe, hae, ce⟩ := (HT.out _ (HBA.out _ HWB.out)).e.edge HEL.out
          have c0 := (H0.out _ HWB.out).cell 0
          have c0' : wb.cell? ⟨w.heap.size, 0, none⟩ = some (.slice (some ⟨be, oe, none⟩) t.edges.length a.ce) := by first | exact c0.trans (by rw [← hae]; rfl) | (rw [← hae]; exact c0)
          have z0 : (0 : Int) ≤ e := by omega
          have z1 : (e : Int) < t.edges.length := by have := HEL.out; omega
          rw [HQ.out] at ce
          obtain ⟨me, hme⟩ : ∃ m, t.edges.length = m := ⟨_, rfl⟩
          rw [hme] at c0' z1
          clear hwb hbb hH c0 hme hae d0 d1
          go_wp2
          go_roundg (gk - 1)
          case measure => omega
          case rel =>
            refine ⟨i + 1, by omega, by omega, by go_num, ⟨_, rfl⟩, HWB⟩

end Go.Proofs.Yteioefgckigbcaa
