/-
  package topo as landed: Check.
-/
import Derived.Test.YtfchmjldhefmkaaToChkB

import Derived.Test.YtfchmjldhefmkaaToChkC

import Derived.Test.YtfchmjldhefmkaaToChkD

import Derived.BigQuiet

import Derived.IntWalk

namespace Go.Proofs.Ytfchmjldhefmkaa

open Go.RowKit

open Go.Great

set_option maxRecDepth 100000 in
set_option maxHeartbeats 8000000 in
theorem otp_check (t : Tp3) (a : TpA) (w : World) (ht : TopR w t a) (hl : lightT t = true) (hcj : t.joints.length ≤ a.cj) : Calls Try.prog 34 #[.agg (tpC t a)] w fun e w' => e = .returned (.int .i64 (checkE t)) ∧ Below w.heap.size w w' := by
  have hlg := light_nums13 hl
  obtain ⟨wa, hwa⟩ : ∃ wa, w.alloc (.cells (tpC t a) 27) = wa := ⟨_, rfl⟩
  have hbwa : Below w.heap.size w wa := by rw [← hwa]; exact (Below.refl _ _).alloc (Nat.le_refl _) _
  have h0 : Has wa (w.heap.size) 27 (tpC t a) := by rw [← hwa]; exact (Has.made _ _ _)
  have HWA := Lib.hid hwa; have HBWA := Lib.hid hbwa
  have c0 : wa.cell? ⟨w.heap.size, 0, none⟩ = some (.slice a.ae t.edges.length a.ce) := (h0).cell 0
  have H0 := Lib.hid (fun W (hW : Below wa.heap.size wa W) => h0.under hW h0.lt)
  have HT := Lib.hid (fun W (hW : Below w.heap.size w W) => ht.under hW)
  have HBA := Lib.hid (fun W (hW : Below wa.heap.size wa W) => hbwa.trans (hW.mono hbwa.size))
  have HLG := Lib.hid hlg; have HLT := Lib.hid hl; have HCJ := Lib.hid hcj
  obtain ⟨V, hV⟩ : ∃ V, checkE t = V := ⟨_, rfl⟩
  rw [hV]
  have HV := Lib.hid hV
  obtain ⟨lg, hlgb⟩ : ∃ b, longB t = b := ⟨_, rfl⟩
  have HLB := Lib.hid hlgb
  have HLO := Lib.hid (otlong_any t a wa)
  rw [hlgb] at HLO
  have heo : (t.edges.any fun x => !withinB x 1 1000000) = !edgesOk t := by
    unfold edgesOk
    rw [List.all_eq_not_any_not, Bool.not_not]
    rfl
  have HCK := Lib.hid (fun W (hW : Below wa.heap.size wa W) => oct_ck (fun x => !withinB x 1 1000000) t.edges a.ae t.edges.length a.ce W (ht.under (hbwa.trans (hW.mono hbwa.size))).e (by omega) (Lib.hid fun x W2 _ => (otck_any x W2)))
  rw [heo] at HCK
  obtain ⟨ok, hok⟩ : ∃ b, edgesOk t = b := ⟨_, rfl⟩
  rw [hok] at HCK
  have HOK := Lib.hid hok
  obtain ⟨n1, hn1⟩ : ∃ n, t.joints.length = n := ⟨_, rfl⟩
  obtain ⟨n2, hn2⟩ : ∃ n, t.bals.length = n := ⟨_, rfl⟩
  obtain ⟨n3, hn3⟩ : ∃ n, t.routes.length = n := ⟨_, rfl⟩
  obtain ⟨ne, hne⟩ : ∃ n, t.edges.length = n := ⟨_, rfl⟩
  have HN1 := Lib.hid hn1; have HN2 := Lib.hid hn2; have HN3 := Lib.hid hn3
  have k1 : n1 ≤ 100 := by rw [← hn1]; exact hlg.2.1
  have k2 : n2 ≤ 100 := by rw [← hn2]; exact hlg.2.2.1
  have k3 : n3 ≤ 100 := by rw [← hn3]; exact hlg.2.2.2.1
  have HC1 := Lib.hid (fun W (hW : Below wa.heap.size wa W) => (show W.cell? ⟨w.heap.size, 1, none⟩ = some (.slice a.aj n1 a.cj) from by rw [← hn1]; exact (h0.under hW h0.lt).cell 1))
  have HC2 := Lib.hid (fun W (hW : Below wa.heap.size wa W) => (show W.cell? ⟨w.heap.size, 2, none⟩ = some (.slice a.ab n2 a.cb) from by rw [← hn2]; exact (h0.under hW h0.lt).cell 2))
  have HC3 := Lib.hid (fun W (hW : Below wa.heap.size wa W) => (show W.cell? ⟨w.heap.size, 3, none⟩ = some (.slice a.ar n3 a.cr) from by rw [← hn3]; exact (h0.under hW h0.lt).cell 3))
  have HC0 := Lib.hid (fun W (hW : Below wa.heap.size wa W) => (show W.cell? ⟨w.heap.size, 0, none⟩ = some (.slice a.ae ne a.ce) from by rw [← hne]; exact (h0.under hW h0.lt).cell 0))
  rw [hne] at HCK
  clear hwa hbwa h0 ht hl hcj hlg hV hlgb heo hok hn1 hn2 hn3 hne c0
  go_enter Try.func34, Try.ntmps34
  go_upto_region 1 with fail
  rw [HWA.out]
  clear HWA
  go_wp2_with (with_reducible refine wpList_load_row (o := ⟨some 10, _, _, _, _, _⟩) rfl 27 _ rfl (w.heap.size) rfl 27 (tpC t a) (0, 0) _ ((H0.out wa (Below.refl _ _))).raw11 Try.underlying27 rfl (by kernel_rfl) ?_)
  refine HLO.out.mono ?_
  rintro e w1 ⟨rfl, hb1⟩
  have HB1 := Lib.hid hb1
  clear hb1 HLO
  cases lg with
  | true =>
    have HF : Hid (V = 2) := Lib.hid (by rw [← HV.out]; unfold checkE; rw [if_pos HLB.out])
    go_wp2
    go_ret
    exact ⟨by rw [HF.out]; rfl, HBA.out _ HB1.out⟩
  | false =>
    have c0 := HC0.out w1 HB1.out
    have HA := Lib.hid (HCK.out w1 HB1.out)
    clear HCK
    go_upto_region 3 with fail
    go_wp2_with fail
    refine HA.out.mono ?_
    rintro e w2 ⟨rfl, hb2⟩
    have HB2 := Lib.hid (HB1.out.trans (hb2.mono HB1.out.size))
    clear hb2 HA c0
    cases ok with
    | false =>
      have HF : Hid (V = 1) := Lib.hid (by rw [← HV.out]; unfold checkE; rw [if_neg (by rw [HLB.out]; decide), if_neg (by rw [HOK.out]; decide)])
      go_wp2
      go_ret
      exact ⟨by rw [HF.out]; rfl, HBA.out _ HB2.out⟩
    | true =>
      have HR1 : Hid ((if firstE (jointE t) n1 = 0 then (if firstE (balE t) n2 = 0 then firstE (routeAt t) n3 else firstE (balE t) n2) else firstE (jointE t) n1) = V) := Lib.hid (by rw [← HV.out, ← HN1.out, ← HN2.out, ← HN3.out]; unfold checkE; rw [if_neg (c := longB t = true) (by rw [HLB.out]; decide), if_pos HOK.out])
      clear HV
      have c1 := HC1.out _ HB2.out
      go_upto_region 5 with fail
      go_wp2
      go_loopg [19] n1 (fun kk v wl => ∃ i : Nat, i ≤ n1 ∧ n1 - i ≤ kk ∧ v = .int .i64 i ∧ Hid (firstE (jointE t) i = 0) ∧ Hid (Below wa.heap.size wa wl))
      case atStart => exact ⟨0, by omega, by omega, rfl, Lib.hid rfl, HB2⟩
      case round =>
        obtain ⟨i, hi, hik, rfl, HF1, HWn1⟩ := hrel
        clear c1
        by_cases hlt : i < n1
        rotate_left
        · have x1 : ¬ (i : Int) < n1 := by omega
          obtain rfl : i = n1 := by omega
          have HR2 : Hid ((if firstE (balE t) n2 = 0 then firstE (routeAt t) n3 else firstE (balE t) n2) = V) := Lib.hid (by have h_ := HR1.out; rw [if_pos HF1.out] at h_; exact h_)
          clear hi hik hlt x1
          have c2 := HC2.out _ HWn1.out
          go_upto_region 12 with fail
          go_wp2
          go_loopg [32] n2 (fun kk v wl => ∃ i : Nat, i ≤ n2 ∧ n2 - i ≤ kk ∧ v = .int .i64 i ∧ Hid (firstE (balE t) i = 0) ∧ Hid (Below wa.heap.size wa wl))
          case atStart => exact ⟨0, by omega, by omega, rfl, Lib.hid rfl, HWn1⟩
          case round =>
            obtain ⟨i, hi, hik, rfl, HF2, HWn2⟩ := hrel
            clear c2
            by_cases hlt : i < n2
            rotate_left
            · have x1 : ¬ (i : Int) < n2 := by omega
              obtain rfl : i = n2 := by omega
              have HR3 : Hid (firstE (routeAt t) n3 = V) := Lib.hid (by have h_ := HR2.out; rw [if_pos HF2.out] at h_; exact h_)
              clear hi hik hlt x1
              have c3 := HC3.out _ HWn2.out
              go_upto_region 19 with fail
              go_wp2
              go_loopg [45] n3 (fun kk v wl => ∃ i : Nat, i ≤ n3 ∧ n3 - i ≤ kk ∧ v = .int .i64 i ∧ Hid (firstE (routeAt t) i = 0) ∧ Hid (Below wa.heap.size wa wl))
              case atStart => exact ⟨0, by omega, by omega, rfl, Lib.hid rfl, HWn2⟩
              case round =>
                obtain ⟨i, hi, hik, rfl, HF3, HWn3⟩ := hrel
                clear c3
                by_cases hlt : i < n3
                rotate_left
                · have x1 : ¬ (i : Int) < n3 := by omega
                  obtain rfl : i = n3 := by omega
                  have HVV : Hid (V = 0) := Lib.hid (by rw [← HR3.out]; exact HF3.out)
                  go_wp2
                  go_ret
                  exact ⟨by rw [HVV.out]; rfl, HBA.out _ HWn3.out⟩
                obtain ⟨x, hx⟩ : ∃ x, t.routes[i]? = some x := ⟨_, List.getElem?_eq_getElem (by rw [HN3.out]; exact hlt)⟩
                have HCA := Lib.hid (otcr_any t a i x wr (HT.out _ (HBA.out _ HWn3.out)) HLT.out HOK.out hx)
                obtain ⟨e, he⟩ : ∃ e, routeAt t i = e := ⟨_, rfl⟩
                rw [he] at HCA
                have HE := Lib.hid he
                have y0 : (0 : Int) ≤ i := by omega
                have y1 : (i : Int) < n3 := by omega
                clear hx he
                go_wp2_with (with_reducible refine wpList_load_row (o := ⟨some 48, _, _, _, _, _⟩) rfl 27 _ rfl (w.heap.size) rfl 27 (tpC t a) (0, 0) _ ((H0.out wr HWn3.out)).raw11 Try.underlying27 rfl (by kernel_rfl) ?_)
                refine HCA.out.mono ?_
                rintro e_ w5 ⟨rfl, hb5⟩
                have HB5 := Lib.hid (HWn3.out.trans (hb5.mono HWn3.out.size))
                clear hb5 HCA
                by_cases hz : e = 0
                rotate_left
                · have z1 : (e == 0) = false := by simp [hz]
                  have z2 : (e != 0) = true := by simp [hz]
                  have HFF : Hid (V = e) := Lib.hid (by have hf_ := first_at hlt HF3.out (by rw [HE.out]; exact hz); rw [HE.out] at hf_; rw [← HR3.out]; rw [hf_])
                  go_wp2
                  go_ret
                  exact ⟨by rw [HFF.out]; rfl, HBA.out _ HB5.out⟩
                subst hz
                have HFN : Hid (firstE (routeAt t) (i + 1) = 0) := Lib.hid (by show (if firstE (routeAt t) i = 0 then routeAt t i else firstE (routeAt t) i) = 0; rw [if_pos HF3.out]; exact HE.out)
                go_wp2
                go_roundg (gk - 1)
                case measure => omega
                case rel => exact ⟨i + 1, by omega, by omega, by go_num, HFN, HB5⟩
            obtain ⟨x, hx⟩ : ∃ x, t.bals[i]? = some x := ⟨_, List.getElem?_eq_getElem (by rw [HN2.out]; exact hlt)⟩
            have HCA := Lib.hid (otcb_any t a i x wr (HT.out _ (HBA.out _ HWn2.out)) HLG.out.1 HLG.out.2.2.1 hx)
            obtain ⟨e, he⟩ : ∃ e, balE t i = e := ⟨_, rfl⟩
            rw [he] at HCA
            have HE := Lib.hid he
            have y0 : (0 : Int) ≤ i := by omega
            have y1 : (i : Int) < n2 := by omega
            clear hx he
            go_wp2_with (with_reducible refine wpList_load_row (o := ⟨some 35, _, _, _, _, _⟩) rfl 27 _ rfl (w.heap.size) rfl 27 (tpC t a) (0, 0) _ ((H0.out wr HWn2.out)).raw11 Try.underlying27 rfl (by kernel_rfl) ?_)
            refine HCA.out.mono ?_
            rintro e_ w5 ⟨rfl, hb5⟩
            have HB5 := Lib.hid (HWn2.out.trans (hb5.mono HWn2.out.size))
            clear hb5 HCA
            by_cases hz : e = 0
            rotate_left
            · have z1 : (e == 0) = false := by simp [hz]
              have z2 : (e != 0) = true := by simp [hz]
              have HFF : Hid (V = e) := Lib.hid (by have hf_ := first_at hlt HF2.out (by rw [HE.out]; exact hz); rw [HE.out] at hf_; rw [← HR2.out]; rw [hf_, if_neg hz])
              go_wp2
              go_ret
              exact ⟨by rw [HFF.out]; rfl, HBA.out _ HB5.out⟩
            subst hz
            have HFN : Hid (firstE (balE t) (i + 1) = 0) := Lib.hid (by show (if firstE (balE t) i = 0 then balE t i else firstE (balE t) i) = 0; rw [if_pos HF2.out]; exact HE.out)
            go_wp2
            go_roundg (gk - 1)
            case measure => omega
            case rel => exact ⟨i + 1, by omega, by omega, by go_num, HFN, HB5⟩
        obtain ⟨x, hx⟩ : ∃ x, t.joints[i]? = some x := ⟨_, List.getElem?_eq_getElem (by rw [HN1.out]; exact hlt)⟩
        have HCA := Lib.hid (otcj_any t a i x wr (HT.out _ (HBA.out _ HWn1.out)) HLG.out.1 HLG.out.2.1 HCJ.out hx)
        obtain ⟨e, he⟩ : ∃ e, jointE t i = e := ⟨_, rfl⟩
        rw [he] at HCA
        have HE := Lib.hid he
        have y0 : (0 : Int) ≤ i := by omega
        have y1 : (i : Int) < n1 := by omega
        clear hx he
        go_wp2_with (with_reducible refine wpList_load_row (o := ⟨some 22, _, _, _, _, _⟩) rfl 27 _ rfl (w.heap.size) rfl 27 (tpC t a) (0, 0) _ ((H0.out wr HWn1.out)).raw11 Try.underlying27 rfl (by kernel_rfl) ?_)
        refine HCA.out.mono ?_
        rintro e_ w5 ⟨rfl, hb5⟩
        have HB5 := Lib.hid (HWn1.out.trans (hb5.mono HWn1.out.size))
        clear hb5 HCA
        by_cases hz : e = 0
        rotate_left
        · have z1 : (e == 0) = false := by simp [hz]
          have z2 : (e != 0) = true := by simp [hz]
          have HFF : Hid (V = e) := Lib.hid (by have hf_ := first_at hlt HF1.out (by rw [HE.out]; exact hz); rw [HE.out] at hf_; rw [← HR1.out]; rw [hf_, if_neg hz])
          go_wp2
          go_ret
          exact ⟨by rw [HFF.out]; rfl, HBA.out _ HB5.out⟩
        subst hz
        have HFN : Hid (firstE (jointE t) (i + 1) = 0) := Lib.hid (by show (if firstE (jointE t) i = 0 then jointE t i else firstE (jointE t) i) = 0; rw [if_pos HF1.out]; exact HE.out)
        go_wp2
        go_roundg (gk - 1)
        case measure => omega
        case rel => exact ⟨i + 1, by omega, by omega, by go_num, HFN, HB5⟩

end Go.Proofs.Ytfchmjldhefmkaa
