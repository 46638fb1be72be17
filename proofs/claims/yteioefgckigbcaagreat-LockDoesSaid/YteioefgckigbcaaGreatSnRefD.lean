/-
  linesideref15, by contract: Over.
-/
import Derived.Test.YteioefgckigbcaaGreatSnRefC

import Derived.Test.YteioefgckigbcaaGreatTpLenE

import Derived.BigQuiet

import Derived.IntWalk

namespace Go.Proofs.YteioefgckigbcaaGreat

open Go.RowKit

open Go.Great

theorem rlength_n (t : Tp3) (a : TpA) (path : List St3) (A : Option Addr) (n c : Nat) (w : World) (ht : TopR w t a) (hp : SlO stC 2 w A n c path) (hn : n ≤ 1048576) (hj : t.joints.length ≤ 100) :
    Calls Tryz.prog 39 #[.agg (tpC t a), .slice A n c] w fun e w' => ∃ N : Int, e = .returned (.tuple #[.int .i64 N, .int .i64 (lenE t path)]) ∧ (edgesOk t = true → N = lenN t path) ∧ Below w.heap.size w w' := by
  cases hq : edgesOk t with
  | true => exact (rlength_any t a path A n c w ht hp hn hj hq).mono fun e w' h => ⟨_, h.1, fun _ => rfl, h.2⟩
  | false => exact (rlength_e t a path A n c w ht hp hn hj).mono fun e w' h => by obtain ⟨N, h1, h2⟩ := h; exact ⟨N, h1, (fun h => by cases h), h2⟩
theorem edges_bad {t : Tp3} {i : Nat} {x : Int} (hx : t.edges[i]? = some x) (h : x < 1 ∨ 1000000 < x) : edgesOk t = false := by
  cases hq : edgesOk t with
  | false => rfl
  | true =>
    unfold edgesOk at hq
    have h1 := List.all_eq_true.1 hq x (List.mem_of_getElem? hx)
    simp only [Bool.and_eq_true, decide_eq_true_eq] at h1
    omega
theorem edges_good {t : Tp3} (h : ∀ (j : Nat) (x : Int), t.edges[j]? = some x → 1 ≤ x ∧ x ≤ 1000000) : edgesOk t = true := by
  unfold edgesOk
  rw [List.all_eq_true]
  intro x hx
  obtain ⟨j, hj, rfl⟩ := List.getElem_of_mem hx
  have := h j _ (List.getElem?_eq_getElem hj)
  simp only [Bool.and_eq_true, decide_eq_true_eq]
  exact this
theorem over_len {t : Tp3} {path : List St3} {fr tz : Int} (h : lenE t path ≠ 0) : overE t path fr tz = ([], lenE t path) := if_neg h
theorem over_edges {t : Tp3} {path : List St3} {fr tz : Int} (h : lenE t path = 0) (h2 : edgesOk t = false) : overE t path fr tz = ([], 1) := by
  unfold overE
  rw [if_pos h, if_neg (by rw [h2]; rintro ⟨h3, _⟩; cases h3)]
theorem over_args {t : Tp3} {path : List St3} {fr tz : Int} (h : lenE t path = 0) (h2 : fr < 0 ∨ tz < fr ∨ sumT t path < tz) : overE t path fr tz = ([], 1) := by
  unfold overE
  rw [if_pos h, if_neg (fun h3 => h3.2 h2)]
theorem ov_at {t : Tp3} {fr tz at_ : Int} {path : List St3} {i : Nat} {x : St3} (hx : path[i]? = some x) : ovGo t fr tz (path.drop i) at_ = partN x (lenAt t x) (cutA fr at_) (cutB tz at_ (lenAt t x)) ++ ovGo t fr tz (path.drop (i + 1)) (at_ + lenAt t x) := by
  rw [drop_at15 hx, ovGo]

set_option maxRecDepth 100000 in
set_option maxHeartbeats 20000000 in
theorem rsover_any (t : Tp3) (a : TpA) (path : List St3) (A : Option Addr) (n c : Nat) (fr tz : Int) (w : World) (ht : TopR w t a) (hp : SlO stC 2 w A n c path) (hn : n ≤ 100) (hl : lightT t = true) :
    Calls Tryz.prog 40 #[.agg (tpC t a), .slice A n c, .int .i64 fr, .int .i64 tz] w fun r w' => ∃ X x, r = .returned (.tuple #[.slice X (overE t path fr tz).1.length x, .int .i64 (overE t path fr tz).2]) ∧ SlO snC 3 w' X (overE t path fr tz).1.length x (overE t path fr tz).1 ∧ (overE t path fr tz).1.length ≤ x ∧ Below w.heap.size w w' := by
  obtain ⟨rL, hrL⟩ : ∃ r, (overE t path fr tz).1 = r := ⟨_, rfl⟩
  obtain ⟨rE, hrE⟩ : ∃ r, (overE t path fr tz).2 = r := ⟨_, rfl⟩
  have HOE := Lib.hid (show overE t path fr tz = (rL, rE) from Prod.ext hrL hrE)
  rw [hrL, hrE]
  clear hrL hrE
  have HNN := Lib.hid (light_nums13 hl)
  have HNL := Lib.hid hn
  have HL := Lib.hid hp.1
  clear hl hn
  obtain ⟨wa, hwa⟩ : ∃ wa, w.alloc (.cells (tpC t a) 27) = wa := ⟨_, rfl⟩
  have hbwa : Below w.heap.size w wa := by rw [← hwa]; exact (Below.refl _ _).alloc (Nat.le_refl _) _
  have h0 : Has wa (w.heap.size) 27 (tpC t a) := by rw [← hwa]; exact (Has.made _ _ _)
  have HWA := Lib.hid hwa; have HBWA := Lib.hid hbwa
  have HT := Lib.hid (fun W (hW : Below w.heap.size w W) => ht.under hW)
  have HP := Lib.hid (fun W (hW : Below w.heap.size w W) => hp.under hW)
  have HG0 := Lib.hid h0
  clear hwa hbwa h0 ht hp
  go_enter Tryz.func40, Tryz.ntmps40
  go_upto_region 1 with fail
  rw [HWA.out]
  clear HWA
  go_wp2_with (with_reducible refine wpList_load_row (o := ⟨some 20, _, _, _, _, _⟩) rfl 27 _ rfl (w.heap.size) rfl 27 (tpC t a) (0, 0) _ (HG0.out).raw11 Tryz.underlying27 rfl (by kernel_rfl) ?_)
  refine (rlength_n t a path A n c wa (HT.out wa HBWA.out) (HP.out wa HBWA.out) (by have := HNL.out; omega) HNN.out.2.1).mono ?_
  rintro e w2 ⟨N, rfl, hN, hb⟩
  have HN := Lib.hid hN
  have HB := Lib.hid (HBWA.out.trans (hb.mono HBWA.out.size))
  have HG0 := Lib.hid (HG0.out.under hb HG0.out.lt)
  clear hb hN HBWA
  obtain ⟨lE, hlE⟩ : ∃ x, lenE t path = x := ⟨_, rfl⟩
  have HLE := Lib.hid hlE
  simp only [hlE]
  clear hlE
  by_cases z0 : lE = 0
  rotate_left
  · have x1 : (lE != 0) = true := by simp [z0]
    have x2 : (lE == 0) = false := by simp [z0]
    have HZ0 := Lib.hid z0
    go_wp2
    go_ret2
    obtain ⟨rfl, rfl⟩ := Prod.mk.inj (show (rL, rE) = ([], lE) from HOE.out.symm.trans (by rw [over_len (by rw [HLE.out]; exact HZ0.out), HLE.out]))
    exact ⟨none, 0, rfl, SlO.nil _ _ _, Nat.le_refl _, HB.out⟩
  subst z0
  obtain ⟨ne, hne⟩ : ∃ m, t.edges.length = m := ⟨_, rfl⟩
  have HNE := Lib.hid hne
  have hneb : ne ≤ 100 := by rw [← hne]; exact HNN.out.1
  have hns : (0 : Int) ≤ ne := by omega
  have c0 : w2.cell? ⟨w.heap.size, 0, none⟩ = some (.slice a.ae ne a.ce) := by have h_ : w2.cell? ⟨w.heap.size, 0, none⟩ = some (.slice a.ae t.edges.length a.ce) := HG0.out.cell 0; rw [hne] at h_; exact h_
  clear hne
  go_upto_region 4 with fail
  go_wp2
  go_loopg [12] ne (fun kk v12 wl => ∃ i : Nat, i ≤ ne ∧ ne - i ≤ kk ∧ v12 = .int .i64 i ∧ Hid (∀ (j : Nat) (x : Int), j < i → t.edges[j]? = some x → 1 ≤ x ∧ x ≤ 1000000) ∧ wl = w2)
  case atStart => exact ⟨0, by omega, by omega, rfl, Lib.hid (fun j x h => absurd h (by omega)), rfl⟩
  case round =>
    obtain ⟨i, hi, hik, rfl, HGD, rfl⟩ := hrel
    by_cases hlt : i < ne
    · obtain ⟨x, hx⟩ : ∃ x, t.edges[i]? = some x := ⟨_, List.getElem?_eq_getElem (by rw [HNE.out]; omega)⟩
      have HX := Lib.hid hx
      obtain ⟨be, oe, hae, ce⟩ := (HT.out wr HB.out).e.edge (show i < t.edges.length by rw [HNE.out]; omega)
      have hgx : t.edges.getD i 0 = x := by rw [List.getD_eq_getElem?_getD, hx]; rfl
      rw [hgx] at ce
      rw [hae] at c0
      have y0 : (0 : Int) ≤ i := by omega
      have y1 : (i : Int) < ne := by omega
      clear hx hae hgx
      by_cases q1 : x < 1
      · have HBD := Lib.hid (edges_bad HX.out (.inl q1))
        go_wp2
        go_ret2
        obtain ⟨rfl, rfl⟩ := Prod.mk.inj (show (rL, rE) = ([], 1) from HOE.out.symm.trans (over_edges HLE.out HBD.out))
        exact ⟨none, 0, rfl, SlO.nil _ _ _, Nat.le_refl _, HB.out⟩
      by_cases q2 : 1000000 < x
      · have HBD := Lib.hid (edges_bad HX.out (.inr q2))
        go_wp2
        go_ret2
        obtain ⟨rfl, rfl⟩ := Prod.mk.inj (show (rL, rE) = ([], 1) from HOE.out.symm.trans (over_edges HLE.out HBD.out))
        exact ⟨none, 0, rfl, SlO.nil _ _ _, Nat.le_refl _, HB.out⟩
      have HGX := Lib.hid (show 1 ≤ x ∧ x ≤ 1000000 by omega)
      go_wp2
      go_roundg (gk - 1)
      case measure => omega
      case rel =>
        refine ⟨i + 1, by omega, by omega, by go_num, Lib.hid (fun j y hj hy => ?_), rfl⟩
        by_cases hji : j = i
        · subst hji; rw [HX.out] at hy; injection hy with hy; rw [← hy]; exact HGX.out
        · exact HGD.out j y (by omega) hy
    obtain rfl : i = ne := by omega
    have x1 : ¬ (i : Int) < i := by omega
    have HED := Lib.hid (edges_good (t := t) fun j x hx => HGD.out j x (by have h_ := (List.getElem?_eq_some_iff.1 hx).1; rw [HNE.out] at h_; exact h_) hx)
    have HSN := Lib.hid (show N = sumT t path from by rw [HN.out HED.out]; unfold lenN; rw [HLE.out]; rfl)
    obtain ⟨ne, hnn⟩ : ∃ m, m = i := ⟨_, rfl⟩
    subst hnn
    clear hik hlt hi HGD
    by_cases q1 : fr < 0
    · skip
      have Q1 := Lib.hid q1
      go_wp2
      go_ret2
      obtain ⟨rfl, rfl⟩ := Prod.mk.inj (show (rL, rE) = ([], 1) from HOE.out.symm.trans (over_args HLE.out (.inl Q1.out)))
      exact ⟨none, 0, rfl, SlO.nil _ _ _, Nat.le_refl _, HB.out⟩
    by_cases q2 : tz < fr
    · skip
      have Q2 := Lib.hid q2
      go_wp2
      go_ret2
      obtain ⟨rfl, rfl⟩ := Prod.mk.inj (show (rL, rE) = ([], 1) from HOE.out.symm.trans (over_args HLE.out (.inr (.inl Q2.out))))
      exact ⟨none, 0, rfl, SlO.nil _ _ _, Nat.le_refl _, HB.out⟩
    by_cases q3 : N < tz
    · skip
      have Q3 := Lib.hid q3
      go_wp2
      go_ret2
      obtain ⟨rfl, rfl⟩ := Prod.mk.inj (show (rL, rE) = ([], 1) from HOE.out.symm.trans (over_args HLE.out (.inr (.inr (by rw [← HSN.out]; exact Q3.out)))))
      exact ⟨none, 0, rfl, SlO.nil _ _ _, Nat.le_refl _, HB.out⟩
    have HFT := Lib.hid (show 0 ≤ fr ∧ fr ≤ tz ∧ tz ≤ N by omega)
    have HLO := Lib.hid (len_ok HLE.out)
    have HN4 := Lib.hid (show n ≤ 40 from by have h1_ := HLO.out.2.1; have h2_ := HL.out; omega)
    have HSB := Lib.hid (show N ≤ 40000000 from by have h1_ := (sum_ok HED.out (path := path) HLO.out.2.2.1).2; have h2_ := HSN.out; have h3_ := HL.out; have h4_ := HN4.out; rw [h2_]; omega)
    have HOI := Lib.hid (HOE.out.symm.trans (over_ok (t := t) (path := path) (fr := fr) (tz := tz) HLE.out HED.out HFT.out.1 HFT.out.2.1 (by rw [← HSN.out]; exact HFT.out.2.2)))
    clear HOE
    obtain ⟨wb, hwb⟩ : ∃ wb, wb = wr := ⟨_, rfl⟩
    subst hwb
    go_upto_region 13 with fail
    clear x1 q1 q2 q3
    go_wp2
    go_loopg [13, 14, 15] n (fun kk v13 v14 v15 wl => ∃ (i k : Nat) (A2 : Option Addr) (c2 : Nat) (q : List Sn3), i ≤ n ∧ n - i ≤ kk ∧ v15 = .int .i64 i ∧ v14 = .int .i64 (sumT t (path.take i)) ∧ v13 = .slice A2 k c2 ∧ Hid (OwR snC 3 69 wb.heap.size wl A2 k c2 q) ∧ Hid (k ≤ i) ∧ Hid (ovGo t fr tz path 0 = q ++ ovGo t fr tz (path.drop i) (sumT t (path.take i))) ∧ Hid (Below wb.heap.size wb wl))
    case atStart => exact ⟨0, 0, none, 0, [], by omega, by omega, rfl, rfl, rfl, Lib.hid (OwR.nil _ _ _ _ _), Lib.hid (Nat.le_refl _), Lib.hid rfl, Lib.hid (Below.refl _ _)⟩
    case round =>
      clear c0
      obtain ⟨i, k, A2, c2, q, hi, hik, rfl, rfl, rfl, HO, HK, HQ, HBL⟩ := hrel
      have HBR := Lib.hid (HB.out.trans (HBL.out.mono HB.out.size))
      by_cases hlt : i < n
      rotate_left
      · obtain rfl : i = n := by omega
        have x1 : ¬ (i : Int) < i := by omega
        have HQF : Hid (ovGo t fr tz path 0 = q) := Lib.hid (by rw [HQ.out, List.drop_of_length_le (Nat.le_of_eq HL.out), ovGo, List.append_nil])
        clear hik hlt hi
        go_upto_region 28 with fail
        go_wp2_with fail
        refine (rsnorm_any q A2 k c2 wr HO.out.sl (by have h1_ := HK.out; have h2_ := HN4.out; omega)).mono ?_
        rintro e w3 ⟨X, x, rfl, hs, hx, hb⟩
        have H1 := Lib.hid hs; have H2 := Lib.hid hx; have H3 := Lib.hid (HBR.out.trans (hb.mono HBR.out.size))
        clear hs hx hb
        go_wp2
        go_ret2
        obtain ⟨rfl, rfl⟩ := Prod.mk.inj (show (rL, rE) = (normL q, 0) from by rw [HOI.out, HQF.out])
        exact ⟨X, x, rfl, H1.out, H2.out, H3.out⟩
      obtain ⟨x, hx⟩ : ∃ x, path[i]? = some x := ⟨_, List.getElem?_eq_getElem (by rw [HL.out]; omega)⟩
      have HX := Lib.hid hx
      obtain ⟨bk, off, rfl, e0, e1⟩ := (HP.out wr HBR.out).step hx
      have hxe := HLO.out.2.2.1 x (List.mem_of_getElem? hx)
      have HXE := Lib.hid hxe
      have hxe2 := hxe
      unfold edgeB at hxe2
      simp only [Bool.and_eq_true, decide_eq_true_eq] at hxe2
      obtain ⟨ke, hke⟩ : ∃ k : Nat, x.edge = k := ⟨x.edge.toNat, by omega⟩
      have hkl : ke < t.edges.length := by omega
      obtain ⟨be, oe, hae, ce⟩ := (HT.out wr HBR.out).e.edge hkl
      have HLA := Lib.hid (show lenAt t x = t.edges.getD ke 0 from by unfold lenAt; rw [hke]; rfl)
      obtain ⟨m, hm⟩ : ∃ q, t.edges.getD ke 0 = q := ⟨_, rfl⟩
      rw [hm] at HLA ce
      have HQM := Lib.hid (show 1 ≤ m ∧ m ≤ 1000000 from by rw [← HLA.out]; exact lenAt_ok HED.out hxe)
      have c0 : wr.cell? ⟨w.heap.size, 0, none⟩ = some (.slice (some ⟨be, oe, none⟩) t.edges.length a.ce) := by have h_ := (HG0.out.under HBL.out HG0.out.lt).cell 0; rw [← hae]; exact h_
      rw [HNE.out] at c0 hkl
      rw [hke] at e0
      have hsa := sum_ok HED.out (path := path.take i) (fun s hs => HLO.out.2.2.1 s (List.mem_of_mem_take hs))
      rw [List.length_take] at hsa
      obtain ⟨at_, hat⟩ : ∃ s, sumT t (path.take i) = s := ⟨_, rfl⟩
      have HAT := Lib.hid hat
      rw [hat] at hsa HQ
      simp only [hat]
      have HAB := Lib.hid (show 0 ≤ at_ ∧ at_ ≤ 40000000 from by have h1_ := HN4.out; omega)
      have HNX : Hid (ovGo t fr tz path 0 = (q ++ partN x m (cutA fr at_) (cutB tz at_ m)) ++ ovGo t fr tz (path.drop (i + 1)) (at_ + m)) := Lib.hid (by rw [HQ.out, ov_at HX.out, HLA.out, List.append_assoc])
      have HAN := Lib.hid (show sumT t (path.take (i + 1)) = at_ + m from by rw [List.take_add_one, HX.out, sum_app, HAT.out]; show at_ + (lenAt t x + 0) = at_ + m; rw [HLA.out, Int.add_zero])
      obtain ⟨xe, xr⟩ := x
      dsimp only at *
      have hn40 : n ≤ 40 := HN4.out
      have y0 : (0 : Int) ≤ i := by omega
      have y1 : (i : Int) < n := by omega
      have z0 : (0 : Int) ≤ ke := by omega
      have z1 : (ke : Int) < ne := by omega
      have hwa : IntKind.i64.wrap (fr - at_) = fr - at_ := by have h1_ := HFT.out; have h2_ := HAB.out; have h3_ := HSB.out; rw [IntKind.wrap_i64]; omega
      have hwb : IntKind.i64.wrap (tz - at_) = tz - at_ := by have h1_ := HFT.out; have h2_ := HAB.out; have h3_ := HSB.out; rw [IntKind.wrap_i64]; omega
      have hwn : IntKind.i64.wrap (at_ + m) = at_ + m := by have h2_ := HAB.out; have h3_ := HQM.out; rw [IntKind.wrap_i64]; omega
      have hwe := Lib.hid hke
      clear hx hxe hxe2 hke hkl hae hm hat hsa
      obtain ⟨k1, hk1⟩ : ∃ k1, k1 = gk := ⟨_, rfl⟩
      subst hk1
      obtain ⟨wv, hwv⟩ : ∃ wv, wv = wr := ⟨_, rfl⟩
      subst hwv
      have HED1 := Lib.hid (show wv.cell? ⟨bk, off + i * 2, none⟩ = some (.int .i64 (ke : Int)) ∧ wv.cell? ⟨bk, off + i * 2 + 1, none⟩ = some (.bool xr) from ⟨e0, e1⟩)
      go_upto_region 16 with fail
      go_quiet (fail)
      clear c0 ce z0 z1 e0 e1
      generalize hwq : World.drewN wv _ = wq
      have HO6 := Lib.hid (show OwR snC 3 69 wb.heap.size wq A2 k c2 q from by rw [← hwq]; exact HO.out.draws _)
      have HB6 := Lib.hid (show Below wb.heap.size wb wq from by rw [← hwq]; exact below_draws HBL.out _)
      have HEQ := Lib.hid (show wq.cell? ⟨bk, off + i * 2, none⟩ = some (.int .i64 (ke : Int)) ∧ wq.cell? ⟨bk, off + i * 2 + 1, none⟩ = some (.bool xr) from by rw [← hwq]; exact HED1.out)
      clear hwq HED1 HO HBL HBR
      by_cases q4 : fr - at_ < 0
      · by_cases q5 : m < tz - at_
        · skip
          have HA_ := Lib.hid (show cutA fr at_ = 0 from by unfold cutA; rw [if_pos q4])
          have HB_ := Lib.hid (show cutB tz at_ m = m from by unfold cutB; rw [if_pos q5])
          rw [HA_.out, HB_.out] at HNX
          by_cases q6 : 0 < m
          rotate_left
          · have HNY : Hid (ovGo t fr tz path 0 = q ++ ovGo t fr tz (path.drop (i + 1)) (at_ + m)) := Lib.hid (by rw [HNX.out]; unfold partN; rw [if_neg q6, List.append_nil])
            go_wp2
            go_roundg (k1 - 1)
            case measure => omega
            case rel =>
              exact ⟨i + 1, k, A2, c2, q, by omega, by omega, by go_num, by rw [HAN.out], rfl, HO6, Lib.hid (by have := HK.out; omega), Lib.hid (by rw [HAN.out]; exact HNY.out), HB6⟩
          cases xr with
          | true =>
            have HNY : Hid (ovGo t fr tz path 0 = (q ++ [⟨(ke : Int), 0, m⟩]) ++ ovGo t fr tz (path.drop (i + 1)) (at_ + m)) := Lib.hid (by rw [HNX.out]; unfold partN; rw [if_pos q6, ← hwe.out]; simp only [Int.sub_self, Int.sub_zero]; rfl)
            have d0 := HEQ.out.1
            have d1 := HEQ.out.2
            clear HNX
            have hmb : 1 ≤ m ∧ m ≤ 1000000 := HQM.out
            have hwm0 : IntKind.i64.wrap m = m := by rw [IntKind.wrap_i64]; omega
            skip
            go_upto_region 24 with fail
            clear d1
            obtain ⟨hN, hO, hC, h1, hBD⟩ := pushR (f := snC) (k := 3) (e := 69) 24 ⟨(ke : Int), 0, m⟩ #[.int .i64 (ke : Int), .int .i64 0, .int .i64 m] rfl rfl (one_sn15 _) HO6.out HB6.out.size (by have h1_ := HK.out; have h2_ := HN4.out; omega) (by omega)
            have hbw : Below wb.heap.size wb (wq.alloc (.cells #[.int .i64 (ke : Int), .int .i64 0, .int .i64 m] 69)) := HB6.out.alloc HB6.out.size _
            have HBW := Lib.hid hbw
            have HLN := Lib.hid HO6.out.2
            clear hbw
            go_wp2_with (with_reducible refine wpList_push (o := ⟨some 112, _, _, _, _, _⟩) rfl (.tmp 98) (.tmp 111) 44 rfl wb.heap.size 69 (.agg #[.int .i64 0, .int .i64 0, .int .i64 0]) 3 24 Tryz.underlying44 info_span15 ?hz31 (by decide) A2 (k) c2 ((q).flatMap snC) ?hs31 hO ⟨wq.heap.size, 0, none⟩ 1 1 (snC ⟨(ke : Int), 0, m⟩) ?hx31 hN hC h1 hBD ?next31)
            all_goals try rfl
            case next31 =>
              intro A31 c31 v31 ho hg
              have HO7 := Lib.hid (OwR.snoc HLN.out ho.out)
              have HB7 := Lib.hid (below_own HBW.out HBW.out.size hO.out (Nat.le_refl _) rfl hg.out)
              clear ho hg hN hO hC h1 hBD HBW HLN d0
              go_wp2
              go_roundg (k1 - 1)
              case measure => omega
              case rel =>
                exact ⟨i + 1, _, A31, c31, _, by omega, by omega, by go_num, by rw [HAN.out], rfl, HO7, Lib.hid (by have := HK.out; omega), Lib.hid (by rw [HAN.out]; exact HNY.out), HB7⟩
          | false =>
            have HNY : Hid (ovGo t fr tz path 0 = (q ++ [⟨(ke : Int), 0, m⟩]) ++ ovGo t fr tz (path.drop (i + 1)) (at_ + m)) := Lib.hid (by rw [HNX.out]; unfold partN; rw [if_pos q6, ← hwe.out]; rfl)
            have d0 := HEQ.out.1
            have d1 := HEQ.out.2
            clear HNX
            skip
            go_upto_region 26 with fail
            clear d1
            obtain ⟨hN, hO, hC, h1, hBD⟩ := pushR (f := snC) (k := 3) (e := 69) 24 ⟨(ke : Int), 0, m⟩ #[.int .i64 (ke : Int), .int .i64 0, .int .i64 m] rfl rfl (one_sn15 _) HO6.out HB6.out.size (by have h1_ := HK.out; have h2_ := HN4.out; omega) (by omega)
            have hbw : Below wb.heap.size wb (wq.alloc (.cells #[.int .i64 (ke : Int), .int .i64 0, .int .i64 m] 69)) := HB6.out.alloc HB6.out.size _
            have HBW := Lib.hid hbw
            have HLN := Lib.hid HO6.out.2
            clear hbw
            go_wp2_with (with_reducible refine wpList_push (o := ⟨some 126, _, _, _, _, _⟩) rfl (.tmp 116) (.tmp 125) 44 rfl wb.heap.size 69 (.agg #[.int .i64 0, .int .i64 0, .int .i64 0]) 3 24 Tryz.underlying44 info_span15 ?hz32 (by decide) A2 (k) c2 ((q).flatMap snC) ?hs32 hO ⟨wq.heap.size, 0, none⟩ 1 1 (snC ⟨(ke : Int), 0, m⟩) ?hx32 hN hC h1 hBD ?next32)
            all_goals try rfl
            case next32 =>
              intro A32 c32 v32 ho hg
              have HO7 := Lib.hid (OwR.snoc HLN.out ho.out)
              have HB7 := Lib.hid (below_own HBW.out HBW.out.size hO.out (Nat.le_refl _) rfl hg.out)
              clear ho hg hN hO hC h1 hBD HBW HLN d0
              go_wp2
              go_roundg (k1 - 1)
              case measure => omega
              case rel =>
                exact ⟨i + 1, _, A32, c32, _, by omega, by omega, by go_num, by rw [HAN.out], rfl, HO7, Lib.hid (by have := HK.out; omega), Lib.hid (by rw [HAN.out]; exact HNY.out), HB7⟩
        · skip
          have HA_ := Lib.hid (show cutA fr at_ = 0 from by unfold cutA; rw [if_pos q4])
          have HB_ := Lib.hid (show cutB tz at_ m = tz - at_ from by unfold cutB; rw [if_neg q5])
          rw [HA_.out, HB_.out] at HNX
          by_cases q6 : 0 < tz - at_
          rotate_left
          · have HNY : Hid (ovGo t fr tz path 0 = q ++ ovGo t fr tz (path.drop (i + 1)) (at_ + m)) := Lib.hid (by rw [HNX.out]; unfold partN; rw [if_neg q6, List.append_nil])
            go_wp2
            go_roundg (k1 - 1)
            case measure => omega
            case rel =>
              exact ⟨i + 1, k, A2, c2, q, by omega, by omega, by go_num, by rw [HAN.out], rfl, HO6, Lib.hid (by have := HK.out; omega), Lib.hid (by rw [HAN.out]; exact HNY.out), HB6⟩
          cases xr with
          | true =>
            have HNY : Hid (ovGo t fr tz path 0 = (q ++ [⟨(ke : Int), m - (tz - at_), m⟩]) ++ ovGo t fr tz (path.drop (i + 1)) (at_ + m)) := Lib.hid (by rw [HNX.out]; unfold partN; rw [if_pos q6, ← hwe.out]; simp only [Int.sub_zero]; rfl)
            have d0 := HEQ.out.1
            have d1 := HEQ.out.2
            clear HNX
            have hwmb : IntKind.i64.wrap (m - (tz - at_)) = m - (tz - at_) := by have h1_ := HQM.out; have h2_ := HAB.out; have h3_ := HFT.out; have h4_ := HSB.out; rw [IntKind.wrap_i64]; omega
            have hmb : 1 ≤ m ∧ m ≤ 1000000 := HQM.out
            have hwm0 : IntKind.i64.wrap m = m := by rw [IntKind.wrap_i64]; omega
            skip
            go_upto_region 24 with fail
            clear d1
            obtain ⟨hN, hO, hC, h1, hBD⟩ := pushR (f := snC) (k := 3) (e := 69) 24 ⟨(ke : Int), m - (tz - at_), m⟩ #[.int .i64 (ke : Int), .int .i64 (m - (tz - at_)), .int .i64 m] rfl rfl (one_sn15 _) HO6.out HB6.out.size (by have h1_ := HK.out; have h2_ := HN4.out; omega) (by omega)
            have hbw : Below wb.heap.size wb (wq.alloc (.cells #[.int .i64 (ke : Int), .int .i64 (m - (tz - at_)), .int .i64 m] 69)) := HB6.out.alloc HB6.out.size _
            have HBW := Lib.hid hbw
            have HLN := Lib.hid HO6.out.2
            clear hbw
            go_wp2_with (with_reducible refine wpList_push (o := ⟨some 112, _, _, _, _, _⟩) rfl (.tmp 98) (.tmp 111) 44 rfl wb.heap.size 69 (.agg #[.int .i64 0, .int .i64 0, .int .i64 0]) 3 24 Tryz.underlying44 info_span15 ?hz33 (by decide) A2 (k) c2 ((q).flatMap snC) ?hs33 hO ⟨wq.heap.size, 0, none⟩ 1 1 (snC ⟨(ke : Int), m - (tz - at_), m⟩) ?hx33 hN hC h1 hBD ?next33)
            all_goals try rfl
            case next33 =>
              intro A33 c33 v33 ho hg
              have HO7 := Lib.hid (OwR.snoc HLN.out ho.out)
              have HB7 := Lib.hid (below_own HBW.out HBW.out.size hO.out (Nat.le_refl _) rfl hg.out)
              clear ho hg hN hO hC h1 hBD HBW HLN d0
              go_wp2
              go_roundg (k1 - 1)
              case measure => omega
              case rel =>
                exact ⟨i + 1, _, A33, c33, _, by omega, by omega, by go_num, by rw [HAN.out], rfl, HO7, Lib.hid (by have := HK.out; omega), Lib.hid (by rw [HAN.out]; exact HNY.out), HB7⟩
          | false =>
            have HNY : Hid (ovGo t fr tz path 0 = (q ++ [⟨(ke : Int), 0, tz - at_⟩]) ++ ovGo t fr tz (path.drop (i + 1)) (at_ + m)) := Lib.hid (by rw [HNX.out]; unfold partN; rw [if_pos q6, ← hwe.out]; rfl)
            have d0 := HEQ.out.1
            have d1 := HEQ.out.2
            clear HNX
            skip
            go_upto_region 26 with fail
            clear d1
            obtain ⟨hN, hO, hC, h1, hBD⟩ := pushR (f := snC) (k := 3) (e := 69) 24 ⟨(ke : Int), 0, tz - at_⟩ #[.int .i64 (ke : Int), .int .i64 0, .int .i64 (tz - at_)] rfl rfl (one_sn15 _) HO6.out HB6.out.size (by have h1_ := HK.out; have h2_ := HN4.out; omega) (by omega)
            have hbw : Below wb.heap.size wb (wq.alloc (.cells #[.int .i64 (ke : Int), .int .i64 0, .int .i64 (tz - at_)] 69)) := HB6.out.alloc HB6.out.size _
            have HBW := Lib.hid hbw
            have HLN := Lib.hid HO6.out.2
            clear hbw
            go_wp2_with (with_reducible refine wpList_push (o := ⟨some 126, _, _, _, _, _⟩) rfl (.tmp 116) (.tmp 125) 44 rfl wb.heap.size 69 (.agg #[.int .i64 0, .int .i64 0, .int .i64 0]) 3 24 Tryz.underlying44 info_span15 ?hz34 (by decide) A2 (k) c2 ((q).flatMap snC) ?hs34 hO ⟨wq.heap.size, 0, none⟩ 1 1 (snC ⟨(ke : Int), 0, tz - at_⟩) ?hx34 hN hC h1 hBD ?next34)
            all_goals try rfl
            case next34 =>
              intro A34 c34 v34 ho hg
              have HO7 := Lib.hid (OwR.snoc HLN.out ho.out)
              have HB7 := Lib.hid (below_own HBW.out HBW.out.size hO.out (Nat.le_refl _) rfl hg.out)
              clear ho hg hN hO hC h1 hBD HBW HLN d0
              go_wp2
              go_roundg (k1 - 1)
              case measure => omega
              case rel =>
                exact ⟨i + 1, _, A34, c34, _, by omega, by omega, by go_num, by rw [HAN.out], rfl, HO7, Lib.hid (by have := HK.out; omega), Lib.hid (by rw [HAN.out]; exact HNY.out), HB7⟩
      · by_cases q5 : m < tz - at_
        · skip
          have HA_ := Lib.hid (show cutA fr at_ = fr - at_ from by unfold cutA; rw [if_neg q4])
          have HB_ := Lib.hid (show cutB tz at_ m = m from by unfold cutB; rw [if_pos q5])
          rw [HA_.out, HB_.out] at HNX
          by_cases q6 : fr - at_ < m
          rotate_left
          · have HNY : Hid (ovGo t fr tz path 0 = q ++ ovGo t fr tz (path.drop (i + 1)) (at_ + m)) := Lib.hid (by rw [HNX.out]; unfold partN; rw [if_neg q6, List.append_nil])
            go_wp2
            go_roundg (k1 - 1)
            case measure => omega
            case rel =>
              exact ⟨i + 1, k, A2, c2, q, by omega, by omega, by go_num, by rw [HAN.out], rfl, HO6, Lib.hid (by have := HK.out; omega), Lib.hid (by rw [HAN.out]; exact HNY.out), HB6⟩
          cases xr with
          | true =>
            have HNY : Hid (ovGo t fr tz path 0 = (q ++ [⟨(ke : Int), 0, m - (fr - at_)⟩]) ++ ovGo t fr tz (path.drop (i + 1)) (at_ + m)) := Lib.hid (by rw [HNX.out]; unfold partN; rw [if_pos q6, ← hwe.out]; simp only [Int.sub_self]; rfl)
            have d0 := HEQ.out.1
            have d1 := HEQ.out.2
            clear HNX
            have hwma : IntKind.i64.wrap (m - (fr - at_)) = m - (fr - at_) := by have h1_ := HQM.out; have h2_ := HAB.out; have h3_ := HFT.out; have h4_ := HSB.out; rw [IntKind.wrap_i64]; omega
            skip
            go_upto_region 24 with fail
            clear d1
            obtain ⟨hN, hO, hC, h1, hBD⟩ := pushR (f := snC) (k := 3) (e := 69) 24 ⟨(ke : Int), 0, m - (fr - at_)⟩ #[.int .i64 (ke : Int), .int .i64 0, .int .i64 (m - (fr - at_))] rfl rfl (one_sn15 _) HO6.out HB6.out.size (by have h1_ := HK.out; have h2_ := HN4.out; omega) (by omega)
            have hbw : Below wb.heap.size wb (wq.alloc (.cells #[.int .i64 (ke : Int), .int .i64 0, .int .i64 (m - (fr - at_))] 69)) := HB6.out.alloc HB6.out.size _
            have HBW := Lib.hid hbw
            have HLN := Lib.hid HO6.out.2
            clear hbw
            go_wp2_with (with_reducible refine wpList_push (o := ⟨some 112, _, _, _, _, _⟩) rfl (.tmp 98) (.tmp 111) 44 rfl wb.heap.size 69 (.agg #[.int .i64 0, .int .i64 0, .int .i64 0]) 3 24 Tryz.underlying44 info_span15 ?hz35 (by decide) A2 (k) c2 ((q).flatMap snC) ?hs35 hO ⟨wq.heap.size, 0, none⟩ 1 1 (snC ⟨(ke : Int), 0, m - (fr - at_)⟩) ?hx35 hN hC h1 hBD ?next35)
            all_goals try rfl
            case next35 =>
              intro A35 c35 v35 ho hg
              have HO7 := Lib.hid (OwR.snoc HLN.out ho.out)
              have HB7 := Lib.hid (below_own HBW.out HBW.out.size hO.out (Nat.le_refl _) rfl hg.out)
              clear ho hg hN hO hC h1 hBD HBW HLN d0
              go_wp2
              go_roundg (k1 - 1)
              case measure => omega
              case rel =>
                exact ⟨i + 1, _, A35, c35, _, by omega, by omega, by go_num, by rw [HAN.out], rfl, HO7, Lib.hid (by have := HK.out; omega), Lib.hid (by rw [HAN.out]; exact HNY.out), HB7⟩
          | false =>
            have HNY : Hid (ovGo t fr tz path 0 = (q ++ [⟨(ke : Int), fr - at_, m⟩]) ++ ovGo t fr tz (path.drop (i + 1)) (at_ + m)) := Lib.hid (by rw [HNX.out]; unfold partN; rw [if_pos q6, ← hwe.out]; rfl)
            have d0 := HEQ.out.1
            have d1 := HEQ.out.2
            clear HNX
            skip
            go_upto_region 26 with fail
            clear d1
            obtain ⟨hN, hO, hC, h1, hBD⟩ := pushR (f := snC) (k := 3) (e := 69) 24 ⟨(ke : Int), fr - at_, m⟩ #[.int .i64 (ke : Int), .int .i64 (fr - at_), .int .i64 m] rfl rfl (one_sn15 _) HO6.out HB6.out.size (by have h1_ := HK.out; have h2_ := HN4.out; omega) (by omega)
            have hbw : Below wb.heap.size wb (wq.alloc (.cells #[.int .i64 (ke : Int), .int .i64 (fr - at_), .int .i64 m] 69)) := HB6.out.alloc HB6.out.size _
            have HBW := Lib.hid hbw
            have HLN := Lib.hid HO6.out.2
            clear hbw
            go_wp2_with (with_reducible refine wpList_push (o := ⟨some 126, _, _, _, _, _⟩) rfl (.tmp 116) (.tmp 125) 44 rfl wb.heap.size 69 (.agg #[.int .i64 0, .int .i64 0, .int .i64 0]) 3 24 Tryz.underlying44 info_span15 ?hz36 (by decide) A2 (k) c2 ((q).flatMap snC) ?hs36 hO ⟨wq.heap.size, 0, none⟩ 1 1 (snC ⟨(ke : Int), fr - at_, m⟩) ?hx36 hN hC h1 hBD ?next36)
            all_goals try rfl
            case next36 =>
              intro A36 c36 v36 ho hg
              have HO7 := Lib.hid (OwR.snoc HLN.out ho.out)
              have HB7 := Lib.hid (below_own HBW.out HBW.out.size hO.out (Nat.le_refl _) rfl hg.out)
              clear ho hg hN hO hC h1 hBD HBW HLN d0
              go_wp2
              go_roundg (k1 - 1)
              case measure => omega
              case rel =>
                exact ⟨i + 1, _, A36, c36, _, by omega, by omega, by go_num, by rw [HAN.out], rfl, HO7, Lib.hid (by have := HK.out; omega), Lib.hid (by rw [HAN.out]; exact HNY.out), HB7⟩
        · skip
          have HA_ := Lib.hid (show cutA fr at_ = fr - at_ from by unfold cutA; rw [if_neg q4])
          have HB_ := Lib.hid (show cutB tz at_ m = tz - at_ from by unfold cutB; rw [if_neg q5])
          rw [HA_.out, HB_.out] at HNX
          by_cases q6 : fr - at_ < tz - at_
          rotate_left
          · have HNY : Hid (ovGo t fr tz path 0 = q ++ ovGo t fr tz (path.drop (i + 1)) (at_ + m)) := Lib.hid (by rw [HNX.out]; unfold partN; rw [if_neg q6, List.append_nil])
            go_wp2
            go_roundg (k1 - 1)
            case measure => omega
            case rel =>
              exact ⟨i + 1, k, A2, c2, q, by omega, by omega, by go_num, by rw [HAN.out], rfl, HO6, Lib.hid (by have := HK.out; omega), Lib.hid (by rw [HAN.out]; exact HNY.out), HB6⟩
          cases xr with
          | true =>
            have HNY : Hid (ovGo t fr tz path 0 = (q ++ [⟨(ke : Int), m - (tz - at_), m - (fr - at_)⟩]) ++ ovGo t fr tz (path.drop (i + 1)) (at_ + m)) := Lib.hid (by rw [HNX.out]; unfold partN; rw [if_pos q6, ← hwe.out]; rfl)
            have d0 := HEQ.out.1
            have d1 := HEQ.out.2
            clear HNX
            have hwma : IntKind.i64.wrap (m - (fr - at_)) = m - (fr - at_) := by have h1_ := HQM.out; have h2_ := HAB.out; have h3_ := HFT.out; have h4_ := HSB.out; rw [IntKind.wrap_i64]; omega
            have hwmb : IntKind.i64.wrap (m - (tz - at_)) = m - (tz - at_) := by have h1_ := HQM.out; have h2_ := HAB.out; have h3_ := HFT.out; have h4_ := HSB.out; rw [IntKind.wrap_i64]; omega
            skip
            go_upto_region 24 with fail
            clear d1
            obtain ⟨hN, hO, hC, h1, hBD⟩ := pushR (f := snC) (k := 3) (e := 69) 24 ⟨(ke : Int), m - (tz - at_), m - (fr - at_)⟩ #[.int .i64 (ke : Int), .int .i64 (m - (tz - at_)), .int .i64 (m - (fr - at_))] rfl rfl (one_sn15 _) HO6.out HB6.out.size (by have h1_ := HK.out; have h2_ := HN4.out; omega) (by omega)
            have hbw : Below wb.heap.size wb (wq.alloc (.cells #[.int .i64 (ke : Int), .int .i64 (m - (tz - at_)), .int .i64 (m - (fr - at_))] 69)) := HB6.out.alloc HB6.out.size _
            have HBW := Lib.hid hbw
            have HLN := Lib.hid HO6.out.2
            clear hbw
            go_wp2_with (with_reducible refine wpList_push (o := ⟨some 112, _, _, _, _, _⟩) rfl (.tmp 98) (.tmp 111) 44 rfl wb.heap.size 69 (.agg #[.int .i64 0, .int .i64 0, .int .i64 0]) 3 24 Tryz.underlying44 info_span15 ?hz37 (by decide) A2 (k) c2 ((q).flatMap snC) ?hs37 hO ⟨wq.heap.size, 0, none⟩ 1 1 (snC ⟨(ke : Int), m - (tz - at_), m - (fr - at_)⟩) ?hx37 hN hC h1 hBD ?next37)
            all_goals try rfl
            case next37 =>
              intro A37 c37 v37 ho hg
              have HO7 := Lib.hid (OwR.snoc HLN.out ho.out)
              have HB7 := Lib.hid (below_own HBW.out HBW.out.size hO.out (Nat.le_refl _) rfl hg.out)
              clear ho hg hN hO hC h1 hBD HBW HLN d0
              go_wp2
              go_roundg (k1 - 1)
              case measure => omega
              case rel =>
                exact ⟨i + 1, _, A37, c37, _, by omega, by omega, by go_num, by rw [HAN.out], rfl, HO7, Lib.hid (by have := HK.out; omega), Lib.hid (by rw [HAN.out]; exact HNY.out), HB7⟩
          | false =>
            have HNY : Hid (ovGo t fr tz path 0 = (q ++ [⟨(ke : Int), fr - at_, tz - at_⟩]) ++ ovGo t fr tz (path.drop (i + 1)) (at_ + m)) := Lib.hid (by rw [HNX.out]; unfold partN; rw [if_pos q6, ← hwe.out]; rfl)
            have d0 := HEQ.out.1
            have d1 := HEQ.out.2
            clear HNX
            skip
            go_upto_region 26 with fail
            clear d1
            obtain ⟨hN, hO, hC, h1, hBD⟩ := pushR (f := snC) (k := 3) (e := 69) 24 ⟨(ke : Int), fr - at_, tz - at_⟩ #[.int .i64 (ke : Int), .int .i64 (fr - at_), .int .i64 (tz - at_)] rfl rfl (one_sn15 _) HO6.out HB6.out.size (by have h1_ := HK.out; have h2_ := HN4.out; omega) (by omega)
            have hbw : Below wb.heap.size wb (wq.alloc (.cells #[.int .i64 (ke : Int), .int .i64 (fr - at_), .int .i64 (tz - at_)] 69)) := HB6.out.alloc HB6.out.size _
            have HBW := Lib.hid hbw
            have HLN := Lib.hid HO6.out.2
            clear hbw
            go_wp2_with (with_reducible refine wpList_push (o := ⟨some 126, _, _, _, _, _⟩) rfl (.tmp 116) (.tmp 125) 44 rfl wb.heap.size 69 (.agg #[.int .i64 0, .int .i64 0, .int .i64 0]) 3 24 Tryz.underlying44 info_span15 ?hz38 (by decide) A2 (k) c2 ((q).flatMap snC) ?hs38 hO ⟨wq.heap.size, 0, none⟩ 1 1 (snC ⟨(ke : Int), fr - at_, tz - at_⟩) ?hx38 hN hC h1 hBD ?next38)
            all_goals try rfl
            case next38 =>
              intro A38 c38 v38 ho hg
              have HO7 := Lib.hid (OwR.snoc HLN.out ho.out)
              have HB7 := Lib.hid (below_own HBW.out HBW.out.size hO.out (Nat.le_refl _) rfl hg.out)
              clear ho hg hN hO hC h1 hBD HBW HLN d0
              go_wp2
              go_roundg (k1 - 1)
              case measure => omega
              case rel =>
                exact ⟨i + 1, _, A38, c38, _, by omega, by omega, by go_num, by rw [HAN.out], rfl, HO7, Lib.hid (by have := HK.out; omega), Lib.hid (by rw [HAN.out]; exact HNY.out), HB7⟩

end Go.Proofs.YteioefgckigbcaaGreat
