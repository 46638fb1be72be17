/-
  package packet's walk.through: what the table's words do, whatever handles a variable.
-/
import Derived.Test.YtamnhnleipnhdaaDoorThruB

namespace Go.Proofs.YtamnhnleipnhdaaDoor

open Go.RowKit

set_option maxRecDepth 100000 in
set_option maxHeartbeats 8000000 in
theorem through_any {St : World → WS → Prop} {F g base lo hi : Nat} (NC : NumC St F g base lo hi) : ∀ (N : Nat), N ≤ 1000 → ∀ l : List Pt, szPts l < N → goodL (ndPts l) = true → no5L (ndPts l) = true → ∀ (s : WS) (w : World) (A : Option Addr) (n c k : Nat), St w s → s.e = 0 → Inv s (k + c7 (ndPts l)) → Wd w → Parts lo hi w A n c l →
    Calls Tryd.prog 85 #[.agg #[.func (.func F) #[.pointer (some ⟨g, 0, none⟩)] #[]], .slice A n c] w (ThruPost St base lo hi w (runL (ndPts l) 0 s)) := by
  intro N
  induction N with
  | zero => intro _ l h; exact absurd h (by omega)
  | succ N ih =>
    intro hN l hsz hgood hno5 s w A n c k hst he hinv hwd hpt
    have IH := Lib.hid (ih (by omega)); clear ih
    obtain ⟨R, hR⟩ : ∃ R, runL (ndPts l) 0 s = R := ⟨_, rfl⟩
    rw [hR]
    have hlen := hpt.len
    have hn1 : n ≤ 1000 := by have := len_sz l; omega
    have hent := NC.ent
    obtain ⟨low1, low2⟩ := NC.low w s hst
    have hb0 : Below w.heap.size w (w.alloc (.cells #[.func (.func F) #[.pointer (some ⟨g, 0, none⟩)] #[]] 93)) := (Below.refl _ _).alloc (Nat.le_refl _) _
    have HF0 := Lib.hid (frz_call (lo := lo) hb0 low1 low2)
    have HS0 := Lib.hid (NC.under _ _ _ hst hb0)
    have HW0 : Hid (Has (w.alloc (.cells #[.func (.func F) #[.pointer (some ⟨g, 0, none⟩)] #[]] 93)) w.heap.size 93 #[.func (.func F) #[.pointer (some ⟨g, 0, none⟩)] #[]]) := Has.made _ _ _
    have HNC := Lib.hid NC; have HP0 := Lib.hid hpt; have HI0 := Lib.hid hinv; have HG0 := Lib.hid hgood; have H50 := Lib.hid hno5; have HR := Lib.hid hR; have HSZ := Lib.hid hsz; have HLEN := Lib.hid hlen; have HWD := Lib.hid hwd; have HE0 := Lib.hid he
    clear hst hinv hgood hno5 hR hsz hlen hwd hpt NC hb0 low1 low2 he
    go_enter Tryd.func85, Tryd.ntmps85
    go_wp2
    go_loopg [9] n (fun kk iv wl => ∃ (done rest : List Pt) (s' : WS), l = done ++ rest ∧ rest.length ≤ kk ∧ iv = .int .i64 done.length ∧ St wl s' ∧ s'.e = 0 ∧ Has wl w.heap.size 93 #[.func (.func F) #[.pointer (some ⟨g, 0, none⟩)] #[]] ∧ FrZ base lo hi w wl ∧ Inv s' (k + c7 (ndPts rest)) ∧ goodL (ndPts rest) = true ∧ no5L (ndPts rest) = true ∧ runL (ndPts rest) 0 s' = R)
    case atStart => exact ⟨[], l, s, rfl, by rw [HLEN.out]; exact Nat.le_refl _, rfl, HS0.out, HE0.out, HW0.out, HF0.out, HI0.out, HG0.out, H50.out, HR.out⟩
    case round =>
      obtain ⟨done, rest, s', hl, hkk, rfl, hst, he, hbx, hfr, hinv, hgood, hno5, hrun⟩ := hrel
      obtain ⟨w1, hw1⟩ : ∃ w1, w1 = wr := ⟨_, rfl⟩
      subst hw1
      obtain ⟨g1, hg1⟩ : ∃ g1, g1 = gk := ⟨_, rfl⟩
      subst hg1
      obtain ⟨i, hi⟩ : ∃ i, done.length = i := ⟨_, rfl⟩
      have hnl : n = i + rest.length := by rw [← HLEN.out, hl, List.length_append, hi]
      rw [hi]
      have HL := Lib.hid hl; have HFR := Lib.hid hfr; have HINV := Lib.hid hinv; have HGD := Lib.hid hgood; have H5 := Lib.hid hno5; have HRUN := Lib.hid hrun; have HST := Lib.hid hst; have HE := Lib.hid he; have HI := Lib.hid hi; have HBX := Lib.hid hbx; have HKK := Lib.hid hkk; have HNL := Lib.hid hnl
      clear hl hfr hinv hgood hno5 hrun hst he hi hbx HS0 HW0 HF0 HI0 HG0 H50 HR HE0 hkk
      cases rest with
      | nil =>
        have hin : ¬ (i : Int) < n := by have := HNL.out; simp at this; omega
        have hR2 : R = s' := by have := HRUN.out; simp only [ndPts, runL] at this; exact this.symm
        clear hnl
        subst hR2
        go_wp2
        refine bodyPost_end (results_none rfl _ _ _) rfl ?_
        exact ⟨.inl ⟨HE.out, rfl, HST.out⟩, HFR.out⟩
      | cons x l2 =>
        cases x with
        | mk v kd b =>
          have hin : (i : Int) < n := by have := HNL.out; rw [List.length_cons] at this; omega
          have hi0 : (0 : Int) ≤ i := by omega
          have hg1 : 1 ≤ g1 ∧ l2.length ≤ g1 - 1 := by have := HKK.out; rw [List.length_cons] at this; omega
          obtain ⟨hg1, hg2⟩ := hg1
          clear hnl
          obtain ⟨hv, hkd, hgb, hgl⟩ := good_cons HGD.out
          obtain ⟨hv5, h5b, h5l⟩ := no5_cons H5.out
          have hrc := run_cons v kd b l2 s' HE.out
          rw [HRUN.out] at hrc
          -- the part's cells
          have hpt1 := HP0.out.keep HFR.out.z (Nat.le_refl _) (Nat.le_refl _)
          obtain ⟨cs, hz, hat⟩ := hpt1.mem
          obtain ⟨c1, c2, c3, hcs, hc1, hx⟩ := ptsAt_at done (.mk v kd b) l2 HL.out hat
          rw [PtAt] at hx
          obtain ⟨Ao, co, Af, nf, cf, fc, rfl, ho, hbl, hnf, hf1, hf2⟩ := hx
          have hcell : ∀ q u, [Value.int .i64 (v : Int), .bool (decide (kd = 0)), .slice Ao (onlyOf kd).length co, .slice Af nf cf][q]? = some u → cs[i * 4 + q]? = some u := fun q u hq => by
            rw [hcs, List.append_assoc, List.getElem?_append_right (by rw [hc1, HI.out]; omega), hc1, HI.out, show i * 4 + q - i * 4 = q by omega]
            rw [List.getElem?_append_left (List.getElem?_eq_some_iff.1 hq).1]
            exact hq
          obtain ⟨pb, po, rfl, k0⟩ := hz.sl.at_ (hcell 0 _ rfl)
          have kq : ∀ q u, [Value.int .i64 (v : Int), .bool (decide (kd = 0)), .slice Ao (onlyOf kd).length co, .slice Af nf cf][q]? = some u → w1.cell? ⟨pb, po + i * 4 + q, none⟩ = some u := fun q u hq => by
            obtain ⟨pb', po', e, h⟩ := hz.sl.at_ (hcell q u hq)
            simp only [Option.some.injEq, Addr.mk.injEq, and_true] at e
            obtain ⟨rfl, rfl⟩ := e
            rw [Nat.add_assoc]
            exact h
          have k0 := kq 0 _ rfl
          have k1 := kq 1 _ rfl
          have k2 := kq 2 _ rfl
          have k3 := kq 3 _ rfl
          rw [Nat.add_zero] at k0
          have hbp : Parts lo hi w1 Af nf cf b := ⟨hbl, hnf, fc, hf1, hf2⟩
          have HBP := Lib.hid hbp; have HO := Lib.hid ho; have HRC := Lib.hid hrc; have HGB := Lib.hid hgb; have H5B := Lib.hid h5b; have HGL := Lib.hid hgl; have H5L := Lib.hid h5l
          have HWD1 := Lib.hid (HWD.out.frz HNC.out.gb HFR.out)
          obtain ⟨lw1, lw2⟩ := HNC.out.low _ _ HST.out
          -- the part's own block
          obtain ⟨m, hm⟩ : ∃ m, (onlyOf kd).length = m := ⟨_, rfl⟩
          rw [hm] at k2
          obtain ⟨z0, hz0⟩ : ∃ z0, decide (kd = 0) = z0 := ⟨_, rfl⟩
          rw [hz0] at k1
          have HM := Lib.hid hm; have HZ0 := Lib.hid hz0
          have hb2 : Below w1.heap.size w1 (w1.alloc (.cells #[.int .i64 (v : Int), .bool z0, .slice Ao m co, .slice Af nf cf] 136)) := (Below.refl _ _).alloc (Nat.le_refl _) _
          have HP2 : Hid (Has (w1.alloc (.cells #[.int .i64 (v : Int), .bool z0, .slice Ao m co, .slice Af nf cf] 136)) w1.heap.size 136 #[.int .i64 (v : Int), .bool z0, .slice Ao m co, .slice Af nf cf]) := Has.made _ _ _
          have HF2 := Lib.hid (frz_call (lo := lo) hb2 lw1 lw2)
          have HST2 := Lib.hid (HNC.out.under _ _ _ HST.out hb2)
          have HBX2 := Lib.hid (HBX.out.frz (.inl rfl) HF2.out)
          have HWD2 := Lib.hid (HWD1.out.frz HNC.out.gb HF2.out)
          have x0 : (w1.alloc (.cells #[.int .i64 (v : Int), .bool z0, .slice Ao m co, .slice Af nf cf] 136)).cell? ⟨w.heap.size, 0, none⟩ = some (.func (.func F) #[.pointer (some ⟨g, 0, none⟩)] #[]) := by rw [HBX2.out.cell]; rfl
          have x00 : w1.cell? ⟨w.heap.size, 0, none⟩ = some (.func (.func F) #[.pointer (some ⟨g, 0, none⟩)] #[]) := by rw [HBX.out.cell]; rfl
          clear kq hcell hz hat hcs hc1 hf1 hf2 ho hbl hnf hpt1 hrc hgb h5b hgl h5l hbp hm hz0 HST HBX HWD1 HP0 hb2
          obtain ⟨n1, hn1e⟩ : ∃ n1, (fetch v s').1 = n1 := ⟨_, rfl⟩
          by_cases hf : (fetch v s').2.e = 0
          · have HC := Lib.hid (HNC.out.ok v s' _ _ hv hv5 HST2.out HE.out HINV.out HWD2.out hf)
            have HINO := Lib.hid (inv_oneN v hv s' (k + c7 (ndPts l2)) (by have := HINV.out; rw [c7_cons] at this; exact inv_less this (by omega)))
            have hbad := one_may_bad v s' HE.out hf
            have hfine := one_fine v s' HE.out hf
            rw [hn1e] at HC hbad hfine
            have HBAD := Lib.hid hbad; have HFINE := Lib.hid hfine; have HFE := Lib.hid hf
            clear hf hbad hfine hn1e
            go_wp2_with fail
            refine HC.out.mono ?_
            rintro e w3 ⟨rfl, hst3, hf3⟩
            have HST3 := Lib.hid hst3
            have HF3 := Lib.hid ((HFR.out.trans HF2.out).trans hf3)
            have HF13 := Lib.hid (HF2.out.trans hf3)
            have HBX3 := Lib.hid (HBX2.out.frz (.inl rfl) hf3)
            have HP3 := Lib.hid (HP2.out.frz (.inr rfl) hf3)
            have HWD3 := Lib.hid (HWD2.out.frz HNC.out.gb hf3)
            have y0 : w3.cell? ⟨w1.heap.size, 0, none⟩ = some (.int .i64 (v : Int)) := by rw [HP3.out.cell]; rfl
            have y1 : w3.cell? ⟨w1.heap.size, 1, none⟩ = some (.bool z0) := by rw [HP3.out.cell]; rfl
            have y2 : w3.cell? ⟨w1.heap.size, 2, none⟩ = some (.slice Ao m co) := by rw [HP3.out.cell]; rfl
            have y3 : w3.cell? ⟨w1.heap.size, 3, none⟩ = some (.slice Af nf cf) := by rw [HP3.out.cell]; rfl
            have HM3 := Lib.hid (may_var v n1 w3 HWD3.out)
            clear hst3 hf3 x0 x00 k0 k1 k2 k3 HC HST2 HBX2 HP2 HWD2 HF2
            cases hmay : mayOf v n1
            · rw [hmay] at HM3
              have hone := HBAD.out hmay
              have hrc := HRC.out
              rw [hone, if_pos (show (20 : Int) ≠ 0 by decide)] at hrc
              have HRE : Hid (R.e = 20) := Lib.hid (by rw [hrc])
              clear hone hrc hmay
              go_wp2_with fail
              refine HM3.out.mono ?_
              rintro e w4 ⟨rfl, rfl⟩
              go_wp2
              exact ⟨rfl, .inr ⟨by rw [HRE.out]; decide, by rw [HRE.out]; rfl⟩, HF3.out⟩
            · rw [hmay] at HM3
              have hone := HFINE.out hmay
              have hrc := HRC.out
              obtain ⟨s2, hs2⟩ : ∃ s2, keep v n1 (fetch v s').2 = s2 := ⟨_, rfl⟩
              have hs2e : s2.e = 0 := by rw [← hs2, keep_e]; exact HFE.out
              have hino := HINO.out
              rw [hs2] at hone HST3
              rw [hone] at hrc hino
              rw [if_neg (show ¬ s2.e ≠ 0 by omega)] at hrc
              have hnl := may_fit v hv n1 hmay
              have hn32 := may_small v hv n1 hmay
              obtain ⟨M, hM⟩ : ∃ M, timesOf kd n1 = M := ⟨_, rfl⟩
              have hMb := times_le kd n1 hkd hn32
              rw [hM] at hrc hMb
              obtain ⟨S3, hS3⟩ : ∃ S3, repS (fun s => runL (ndPts b) 0 s) M s2 = S3 := ⟨_, rfl⟩
              rw [hS3] at hrc
              have HO3 := HO.out.keep HF13.out.z (Nat.le_refl _) (Nat.le_refl _)
              have HT := times_any v kd Ao co (.slice Af nf cf) n1 w3 hkd (fun _ => hnl.1) HO3.sl
              rw [HM.out, HZ0.out, hM] at HT
              have HT := Lib.hid HT
              have HRC2 := Lib.hid hrc; have HINO2 := Lib.hid hino; have HS2E := Lib.hid hs2e; have HS3 := Lib.hid hS3; have HMM := Lib.hid hM
              have BS := Lib.hid (HNC.out.low _ _ HST3.out)
              clear hone hrc hs2 hs2e hino hnl hn32 hM hS3 HO3 hmay HBAD HFINE HFE HINO HRC HO
              go_wp2_with fail
              refine HM3.out.mono ?_
              rintro e w4 ⟨rfl, rfl⟩
              go_wp2_with fail
              refine HT.out.mono ?_
              rintro e w5 ⟨rfl, hb5⟩
              have hf5 := frz_call (lo := lo) hb5 BS.out.1 BS.out.2
              have HST5 := Lib.hid (HNC.out.under _ _ _ HST3.out hb5)
              have HBX5 := Lib.hid (HBX3.out.frz (.inl rfl) hf5)
              have HP5 := Lib.hid (HP3.out.frz (.inr rfl) hf5)
              have HF5 := Lib.hid (HF3.out.trans hf5)
              have HF15 := Lib.hid (HF13.out.trans hf5)
              clear hb5 hf5 HT HM3 y0 y1 y2 y3 HST3 HBX3 HP3 HWD3 HF3 HF13
              go_wp2
              go_loopg [27] M (fun kq iv wl => ∃ (j : Nat) (s4 : WS), j ≤ M ∧ M - j ≤ kq ∧ iv = .int .i64 j ∧ St wl s4 ∧ s4.e = 0 ∧ Has wl w.heap.size 93 #[.func (.func F) #[.pointer (some ⟨g, 0, none⟩)] #[]] ∧ Has wl w1.heap.size 136 #[.int .i64 (v : Int), .bool z0, .slice Ao m co, .slice Af nf cf] ∧ FrZ base lo hi w wl ∧ FrZ base lo hi w1 wl ∧ Inv s4 (k + c7 (ndPts l2)) ∧ repS (fun s => runL (ndPts b) 0 s) (M - j) s4 = S3)
              case atStart => exact ⟨0, s2, by omega, by omega, rfl, HST5.out, HS2E.out, HBX5.out, HP5.out, HF5.out, HF15.out, HINO2.out, HS3.out⟩
              case round =>
                obtain ⟨j, s4, hj, hjk, rfl, hst, he4, hbx, hpp, hfr4, hf14, hinv4, hrep⟩ := hrel
                have HWD4 := Lib.hid (HWD.out.frz HNC.out.gb hfr4)
                have y3 : wr.cell? ⟨w1.heap.size, 3, none⟩ = some (.slice Af nf cf) := by rw [hpp.cell]; rfl
                have y4 : wr.cell? ⟨w.heap.size, 0, none⟩ = some (.func (.func F) #[.pointer (some ⟨g, 0, none⟩)] #[]) := by rw [hbx.cell]; rfl
                have HST4 := Lib.hid hst; have HBX4 := Lib.hid hbx; have HP4 := Lib.hid hpp; have HF4 := Lib.hid hfr4; have HF14 := Lib.hid hf14; have HI4 := Lib.hid hinv4; have HREP := Lib.hid hrep; have HE4 := Lib.hid he4
                clear hst hbx hpp hfr4 hf14 hinv4 hrep he4 HST5 HBX5 HP5 HF5 HF15
                by_cases hlt : j < M
                · have hk3 : kd ≠ 3 := fun e => by
                    have := HMM.out
                    rw [e] at this
                    simp [timesOf] at this
                    omega
                  have hszb : szPts b < N := by
                    have := HSZ.out
                    have h1 : szPts l = szPts done + szPts (.mk v kd b :: l2) := by rw [HL.out, szPts_append]
                    have h2 : szPts (.mk v kd b :: l2) = 1 + szPts b + szPts l2 := by rw [szPts, szPt, if_neg hk3]
                    omega
                  obtain ⟨hg5, hno7⟩ := HGB.out hk3
                  have hrep := HREP.out
                  rw [show M - j = (M - (j + 1)) + 1 by omega, repS, if_neg (by rw [HE4.out]; decide)] at hrep
                  have hcl := IH.out b hszb hg5 (H5B.out hk3) s4 wr Af nf cf (k + c7 (ndPts l2)) HST4.out HE4.out (by rw [noL_c7 _ hno7]; exact HI4.out) HWD4.out (HBP.out.keep HF14.out.z (Nat.le_refl _) (Nat.le_refl _))
                  have hin5 := inv_runL (ndPts b) 0 s4 (k + c7 (ndPts l2)) hg5 (by rw [noL_c7 _ hno7]; exact HI4.out)
                  obtain ⟨s6, hs6⟩ : ∃ s6, runL (ndPts b) 0 s4 = s6 := ⟨_, rfl⟩
                  simp only [hs6] at hcl hrep hin5
                  have HCL := Lib.hid hcl; have HREP2 := Lib.hid hrep; have HIN5 := Lib.hid hin5
                  have x0 : (0 : Int) ≤ j := by omega
                  have x1 : (j : Int) < M := by omega
                  clear hcl hrep hin5 hs6 hno7 hg5 hszb hk3 HREP
                  by_cases h6 : s6.e = 0
                  · have HCC := Lib.hid (HCL.out.mono fun e w' h => h.fine h6)
                    have H6 := Lib.hid h6
                    clear h6 HCL
                    go_wp2_with fail
                    refine HCC.out.mono ?_
                    rintro e w6 ⟨rfl, hst6, hf6⟩
                    have HST6 := Lib.hid hst6
                    have HF6 := Lib.hid hf6
                    clear hst6 hf6 HCC y3 y4
                    go_wp2
                    go_roundg (gk - 1)
                    case measure => omega
                    case rel => exact ⟨j + 1, s6, by omega, by omega, by go_num, HST6.out, H6.out, HBX4.out.frz (.inl rfl) HF6.out, HP4.out.frz (.inr rfl) HF6.out, HF4.out.trans HF6.out, HF14.out.trans HF6.out, HIN5.out, HREP2.out⟩
                  · have HCC := Lib.hid (HCL.out.mono fun e w' h => h.bad h6)
                    have hrep := HREP2.out
                    rw [repS_err _ _ h6] at hrep
                    have hrc := HRC2.out
                    rw [← hrep, runL_err _ _ h6] at hrc
                    have HRE : Hid (R.e = s6.e) := Lib.hid (by rw [hrc])
                    have H6 := Lib.hid h6
                    clear h6 hrep hrc HCL
                    unfold panE at HCC
                    go_wp2_with fail
                    refine HCC.out.mono ?_
                    rintro e w6 ⟨rfl, hf6⟩
                    have HF6 := Lib.hid hf6
                    clear hf6 HCC y3 y4
                    go_wp2
                    exact ⟨rfl, .inr ⟨by rw [HRE.out]; exact H6.out, by rw [HRE.out]; rfl⟩, HF4.out.trans HF6.out⟩
                · obtain rfl : j = M := by omega
                  have hrep := HREP.out
                  rw [Nat.sub_self, repS] at hrep
                  have hrc := HRC2.out
                  rw [← hrep] at hrc
                  have HRC3 := Lib.hid hrc.symm
                  clear hrep hrc y3 y4
                  go_wp2
                  go_roundg (g1 - 1)
                  case measure => omega
                  case rel => exact ⟨done ++ [.mk v kd b], l2, s4, by rw [HL.out]; simp, hg2, by rw [List.length_append, HI.out]; rfl, HST4.out, HE4.out, HBX4.out, HF4.out, HI4.out, HGL.out, H5L.out, HRC3.out⟩
          · have HC := Lib.hid (HNC.out.bad v s' _ _ hv hv5 HST2.out HE.out HINV.out HWD2.out hf)
            have hone := one_fetch_bad v s' HE.out hf
            have hrc := HRC.out
            rw [hone, if_pos hf] at hrc
            have HRE : Hid (R.e = (fetch v s').2.e) := Lib.hid (by rw [hrc])
            have HFN := Lib.hid hf
            clear hone hrc hf hn1e
            unfold panE at HC
            go_wp2_with fail
            refine HC.out.mono ?_
            rintro e w3 ⟨rfl, hf3⟩
            have HF3 := Lib.hid ((HFR.out.trans HF2.out).trans hf3)
            clear hf3
            go_wp2
            exact ⟨rfl, .inr ⟨by rw [HRE.out]; exact HFN.out, by rw [HRE.out]; rfl⟩, HF3.out⟩
end Go.Proofs.YtamnhnleipnhdaaDoor
