/-
  linesidelaw05.PacketOnly, walked.
-/
import Derived.Test.YtccmickemglmaaaDoorLawPacketCut

namespace Go.Proofs.YtccmickemglmaaaDoor

open Go.RowKit

open BitsM

theorem sl_short {w : World} {A : Option Addr} {n c k : Nat} {vs : List Value} (h : Sl w 1 A n c vs) (hk : k ≤ n) : Sl w 1 A k c (vs.take k) := by
  have hl := h.1
  refine ⟨by rw [List.length_take]; omega, fun e => ⟨by have := (h.2.1 e).1; omega, (h.2.1 e).2⟩, fun ad ha j u hu => h.2.2 ad ha j u ?_⟩
  rw [List.getElem?_take] at hu
  split at hu
  · exact hu
  · cases hu

set_option maxRecDepth 100000 in
set_option maxHeartbeats 4000000 in
theorem packetOnly_walk (A : Option Addr) (n c : Nat) (zs : List Int) (a : Int) (w : World) (hcn : InInts .u8 w A n zs ∧ n ≤ c) (hw : (Lit.int .i64 a).wf = true) (hwd : Wd w) :
    Calls Tryd.prog 6 #[.slice A n c, .int .i64 a] w fun e w' => e = .returned (.bool true) ∧ Below w.heap.size w w' := by
  obtain ⟨h, hcap⟩ := hcn
  obtain ⟨hl, _, ha, hb⟩ := h.bytes
  have hbd := int_bounds hw
  have HA0 := Lib.hid (awake_any w hwd)
  have HWD := Lib.hid hwd; clear hwd
  by_cases hin : n ≤ 1500
  · rw [← hl] at hin hcap ⊢
    generalize zs.map Int.toNat = xs at *
    have HA := Lib.hid ha; have HB := Lib.hid hb
    have x1 : ¬ (1500 : Int) < (xs.length : Int) := by omega
    clear h ha hb hl hw
    go_enter Tryd.func6, Tryd.ntmps6
    go_wp2_with fail
    refine HA0.out.mono ?_
    rintro e w1 ⟨rfl, hb1⟩
    have HB1 := Lib.hid hb1
    have HG := Lib.hid (opk_get A c xs a w1 (at8_low HA.out hb1) HB.out hin hcap hbd.1 hbd.2 (HWD.out.under hb1))
    clear hb1 HA0
    go_wp2_with fail
    refine HG.out.mono ?_
    rintro e w2 ⟨A2, n2, c2, rfl, hs2, hb2⟩
    obtain ⟨G, hG⟩ : ∃ G, getF (bitsOf xs) a = G := ⟨_, rfl⟩
    rw [hG] at hs2 ⊢
    obtain ⟨wp, hwp⟩ : ∃ wp, w2.alloc (.cells #[.int .i64 G.1.1, .slice A2 n2 c2] 24) = wp := ⟨_, rfl⟩
    have hbp : Below w2.heap.size w2 wp := by rw [← hwp]; exact (Below.refl _ _).alloc (Nat.le_refl _) _
    have hszp : w2.heap.size < wp.heap.size := by rw [← hwp]; simp
    have hcp : wp.cell? ⟨w2.heap.size, 0, none⟩ = some (.int .i64 G.1.1) ∧ wp.cell? ⟨w2.heap.size, 1, none⟩ = some (.slice A2 n2 c2) := by
      have hh : Has wp w2.heap.size 24 #[.int .i64 G.1.1, .slice A2 n2 c2] := by rw [← hwp]; exact Has.made _ _ _
      rw [hh.cell, hh.cell]; exact ⟨rfl, rfl⟩
    have hB2 : Below w.heap.size w w2 := HB1.out.trans (hb2.mono HB1.out.size)
    have hBp : Below w.heap.size w wp := hB2.trans (hbp.mono hB2.size)
    have HBP := Lib.hid hBp
    have hsp := sli_under hs2 hbp hbp.size
    have HSP := Lib.hid hsp
    have hglen := getF_len (bitsOf xs) a
    rw [hG] at hglen
    have hn2 : n2 ≤ 8184 := by rw [← hs2.len]; exact hglen
    obtain ⟨hcp0, hcp1⟩ := hcp
    have hlen2 := hs2.len
    unfold pkV
    clear hs2 hb2 HG HB1 hB2 hBp hbp hsp hglen
    by_cases he : G.2.2 = 0
    · obtain ⟨O, R, hi, ha0, ha1, hend, hdrop, hlt⟩ := get_only (bits := bitsOf xs) (a := a) (end_ := G.2.1) (id := G.1.1) (V := G.1.2) (by rw [hG, ← he])
      have hnl := hlen2
      have hfit := items_fit G.1.1 G.1.2
      have hln := items_len2 G.1.1 G.1.2
      have HI := Lib.hid (opk_items G.1.1 A2 n2 c2 G.1.2 wp HSP.out (by omega) (HWD.out.under HBP.out))
      unfold ItemsPost at HI
      rw [hi] at HI hfit hln
      simp only at HI hfit hln
      rw [hlen2] at hln
      rw [bitsOf_length] at ha1
      obtain ⟨p, rfl⟩ : ∃ p : Nat, a = p := ⟨a.toNat, by omega⟩
      rw [Int.toNat_natCast] at hdrop
      obtain ⟨bs, hbs⟩ : ∃ bs, laidOf O = bs := ⟨_, rfl⟩
      have hdl := congrArg List.length hdrop
      rw [List.length_drop, bitsOf_length, List.length_append, hbs] at hdl
      rw [hbs] at hlt hdrop
      obtain ⟨q, hq⟩ : ∃ q : Nat, p + bs.length = q := ⟨_, rfl⟩
      have hE : G.2.1 = (q : Int) := by omega
      have hpq : p ≤ q := by omega
      have hqn : q ≤ 8 * xs.length := by omega
      have hqL : q - p = bs.length := by omega
      have hB48 : bs.length ≤ 12000 := by omega
      have x2 : (G.2.2 != 0) = false := by simp [he]
      have x3 : ¬ (q : Int) < (p : Int) := by omega
      have x4 : ¬ (8 * (xs.length : Int)) < (q : Int) := by omega
      have HD := Lib.hid hdrop; have HF := Lib.hid hfit; have HBS := Lib.hid hbs
      rw [hE]
      unfold pkV at HI
      clear hdrop hfit hi hend hlt hdl hq hE hG ha0 ha1 he hnl hbs hbd
      go_wp2_with fail
      refine HI.out.mono ?_
      rintro e w3 ⟨A3, m3, c3, rfl, hs3, hb3⟩
      have hm3 : m3 ≤ 8186 := by have := hs3.len; omega
      have hB3 := HBP.out.trans (hb3.mono HBP.out.size)
      have HB3 := Lib.hid hB3
      have HBt := Lib.hid (refBits_any A c xs w3 (at8_low HA.out hB3) HB.out (by omega))
      have HS3 := Lib.hid hs3
      clear hs3 hb3 hB3 HI
      go_wp2_with fail
      refine HBt.out.mono ?_
      rintro e w4 ⟨A4, c4, rfl, ho4, hb4⟩
      have HB4 := Lib.hid (HB3.out.trans (hb4.mono HB3.out.size))
      have hmc : 8 * xs.length ≤ c4 := by
        rcases ho4.2 with ⟨e1, e2⟩ | ⟨_, cap, _, e1, _, _, h3, _⟩
        · omega
        · injection e1 with _ _ e3
          omega
      have hct := fun w : World => cut_both (P := Tryd.prog) 39 4 Tryd.underlying39 (by kernel_rfl) (by kernel_rfl) A4 (8 * xs.length) c4 p q hpq (by omega) w
      have hsw : Sl w4 1 (if c4 = p then A4 else A4.map (·.add (p * 1))) (q - p) (c4 - p) (bools bs) := by
        have h := sl_short ((Sl.of_own ho4).from_ hmc (p := p) (by omega)) (k := q - p) (by omega)
        have e0 : bitsFrom xs 0 (8 * xs.length) = bitsOf xs := rfl
        rw [e0] at h
        have e1 : List.take (q - p) (List.drop p (bools (bitsOf xs))) = bools bs := by
          unfold bools
          rw [← List.map_drop, ← List.map_take, HD.out, hqL, List.take_left]
        rw [e1] at h
        exact h
      rw [hqL] at hsw
      simp only [hqL] at hct
      generalize (if c4 = p then A4 else A4.map (·.add (p * 1))) = A5 at *
      generalize c4 - p = c5 at *
      have HSW := Lib.hid hsw
      have HLd := Lib.hid (laid_any A3 m3 c3 O w4 (HS3.out.under hb4) (by omega) HF.out)
      rw [HBS.out] at HLd
      clear ho4 hb4 hmc hsw HBt HS3 HBS HD
      go_wp2_with fail
      refine HLd.out.mono ?_
      rintro e w5 ⟨A6, c6, rfl, ho6, hb6⟩
      have HB5 := Lib.hid (HB4.out.trans (hb6.mono HB4.out.size))
      have HG5 := Lib.hid (Sl.of_own ho6)
      have HW5 := Lib.hid (HSW.out.under hb6)
      clear ho6 hb6 HLd HSW hct
      obtain ⟨L, hL⟩ : ∃ L, bs.length = L := ⟨_, rfl⟩
      rw [hL] at HG5 HW5 hB48
      simp only [hL]
      have xne : ((L : Int) != (L : Int)) = false := by simp
      go_wp2
      go_loopg [13] L (fun kk i wl => ∃ j : Nat, j ≤ L ∧ L - j ≤ kk ∧ i = .int .i64 j ∧ ∃ q, wl = w5.drewN q)
      case atStart => exact ⟨0, by omega, by omega, rfl, 0, rfl⟩
      case round =>
        obtain ⟨j, hj, hjk, rfl, q, hq⟩ := hrel
        have hl := HG5.out.draws q
        have hk := HW5.out.draws q
        rw [← hq] at hl hk
        have HLr := Lib.hid hl; have HKr := Lib.hid hk; have HQ := Lib.hid hq; clear hl hk hq
        by_cases hlt : j < L
        · obtain ⟨x, hx⟩ : ∃ x, bs[j]? = some x := ⟨_, List.getElem?_eq_getElem (by omega)⟩
          have hxv : (bools bs)[j]? = some (.bool x) := by simp [bools, hx]
          obtain ⟨b1, o1, rfl, hc1⟩ := HLr.out.at_ hxv
          obtain ⟨b2, o2, rfl, hc2⟩ := HKr.out.at_ hxv
          have y1 : (j : Int) < L := by omega
          have y0 : (0 : Int) ≤ j := by omega
          have xe : (x != x) = false := by simp
          clear hx hxv
          go_wp2_with fail
          go_quiet (fail)
          go_wp2
          go_roundg (gk - 1)
          case measure => omega
          case rel => exact ⟨j + 1, by omega, by omega, by go_num, q + nq, by rw [HQ.out, World.drewN_drewN]⟩
        · obtain rfl : j = L := by omega
          go_wp2
          go_ret
          exact ⟨rfl, by rw [HQ.out]; exact below_draws HB5.out q⟩
    · have hge := get_err (bits := bitsOf xs) (a := a) (by rw [hG]; exact he)
      rw [hG] at hge
      obtain ⟨hg1, hg2⟩ := hge
      have hid : G.1.1 = 0 := by rw [hg1]
      have hv : n2 = 0 := by rw [← hlen2, hg1]; rfl
      subst hv
      have x2 : (G.2.2 != 0) = true := by simp [he]
      have x3 : (G.2.1 == 0) = true := by simp [hg2]
      have x4 : (G.1.1 == 0) = true := by simp [hid]
      clear hg1 hg2 hid hlen2 hG
      go_wp2
      go_ret
      exact ⟨rfl, HBP.out⟩
  · have x1 : (1500 : Int) < (n : Int) := by omega
    clear h ha hb hl hw hbd
    go_enter Tryd.func6, Tryd.ntmps6
    go_wp2_with fail
    refine HA0.out.mono ?_
    rintro e w1 ⟨rfl, hb1⟩
    have HB1 := Lib.hid hb1
    clear hb1 HA0
    go_wp2
    go_ret
    exact ⟨rfl, HB1.out⟩
end Go.Proofs.YtccmickemglmaaaDoor
