/-
  linesideref14, by contract: Locate, On.
-/
import Derived.Test.YtfchmjldhefmkaaPlRefC

import Derived.BigQuiet

import Derived.IntWalk

namespace Go.Proofs.Ytfchmjldhefmkaa

open Go.RowKit

open Go.Great

theorem on_drop14 {t : Tp3} {p : Ps3} {path : List St3} {i : Nat} {x : St3} {c : Int} (hx : path[i]? = some x) : onGo t p (path.drop i) c = if eqS x (stepP p) = true then some (c + lenAt t x - aheadP t p) else onGo t p (path.drop (i + 1)) (c + lenAt t x) := by
  obtain ⟨h1, e⟩ := List.getElem?_eq_some_iff.1 hx
  rw [List.drop_eq_getElem_cons h1, e, onGo]
theorem loc_bad14 {t : Tp3} {id : Int} {rev : Bool} {n : Int} (h : checkE t ≠ 0) : locE t id rev n = (zeroP, 1) := if_neg h
theorem loc_none14 {t : Tp3} {id : Int} {rev : Bool} {n : Int} (h : checkE t = 0) (hb : (balF t id).isSome = false) : locE t id rev n = (zeroP, 4) := by
  unfold locE
  rw [if_pos h]
  cases hq : balF t id with
  | none => rfl
  | some y => rw [hq] at hb; cases hb
theorem loc_some14 {t : Tp3} {id : Int} {rev : Bool} {n : Int} (h : checkE t = 0) (hb : (balF t id).isSome = true) : locE t id rev n = walkE t ⟨(balR t id).edge, (balR t id).at_, rev⟩ n := by
  unfold locE balR
  rw [if_pos h]
  cases hq : balF t id with
  | none => rw [hq] at hb; cases hb
  | some y => rfl
theorem on_bad14 {t : Tp3} {path : List St3} {p : Ps3} (h : rightP t p = false) : onE t path p = (0, 1) := if_neg (by rw [h]; decide)
theorem on_len14 {t : Tp3} {path : List St3} {p : Ps3} (h : rightP t p = true) (hl : lenE t path ≠ 0) : onE t path p = (0, lenE t path) := by
  unfold onE
  rw [if_pos h, if_neg hl]
theorem on_none14 {t : Tp3} {path : List St3} {p : Ps3} (h : rightP t p = true) (hl : lenE t path = 0) (hg : onGo t p path 0 = none) : onE t path p = (0, 4) := by
  unfold onE
  rw [if_pos h, if_pos hl, hg]
theorem on_some14 {t : Tp3} {path : List St3} {p : Ps3} {n : Int} (h : rightP t p = true) (hl : lenE t path = 0) (hg : onGo t p path 0 = some n) : onE t path p = (n, 0) := by
  unfold onE
  rw [if_pos h, if_pos hl, hg]
theorem sum_take14 {t : Tp3} {path : List St3} {i : Nat} {x : St3} (hx : path[i]? = some x) : sumT t (path.take (i + 1)) = sumT t (path.take i) + lenAt t x := by
  rw [List.take_add_one, hx, sum_app]
  show _ + (lenAt t x + 0) = _
  rw [Int.add_zero]

set_option maxRecDepth 100000 in
set_option maxHeartbeats 8000000 in
theorem rlocate_any (t : Tp3) (a : TpA) (id : Int) (rev : Bool) (n : Int) (w : World) (ht : TopR w t a) (hlt : lightT t = true) (hcj : t.joints.length ≤ a.cj) :
    Calls Try.prog 13 #[.agg (tpC t a), .int .i64 id, .bool rev, .int .i64 n] w fun e w' => e = .returned (.tuple #[.agg (psA (locE t id rev n).1), .int .i64 (locE t id rev n).2]) ∧ Below w.heap.size w w' := by
  obtain ⟨rP, hrP⟩ : ∃ r, (locE t id rev n).1 = r := ⟨_, rfl⟩
  obtain ⟨rE, hrE⟩ : ∃ r, (locE t id rev n).2 = r := ⟨_, rfl⟩
  have HLE := Lib.hid (show locE t id rev n = (rP, rE) from Prod.ext hrP hrE)
  rw [hrP, hrE]
  clear hrP hrE
  have HLT := Lib.hid hlt
  have HNN := Lib.hid (light_nums13 hlt)
  have HCJ := Lib.hid hcj
  obtain ⟨cE, hcE⟩ : ∃ e, checkE t = e := ⟨_, rfl⟩
  have HCE := Lib.hid hcE
  clear hlt hcj hcE
  obtain ⟨wa, hwa⟩ : ∃ wa, (w.alloc (.cells (tpC t a) 27)).alloc (.cells #[.int .i64 0, .int .i64 0, .bool false] 29) = wa := ⟨_, rfl⟩
  have hbwa : Below w.heap.size w wa := by rw [← hwa]; exact ((Below.refl _ _).alloc (Nat.le_refl _) _).alloc (by simp) _
  have h0 : Has wa (w.heap.size) 27 (tpC t a) := by rw [← hwa]; exact ((Has.made _ _ _).beside _)
  have h1 : Has wa (w.heap.size + 1) 29 #[.int .i64 0, .int .i64 0, .bool false] := by rw [← hwa]; exact (has_at11 (by simp))
  have HWA := Lib.hid hwa; have HBWA := Lib.hid hbwa
  have HT := Lib.hid (fun W (hW : Below w.heap.size w W) => ht.under hW)
  have HG0 := Lib.hid h0
  have HG1 := Lib.hid h1
  clear hwa hbwa h0 h1 ht
  go_enter Try.func13, Try.ntmps13
  go_upto_region 1 with fail
  rw [HWA.out]
  clear HWA
  go_wp2_with (with_reducible refine wpList_load_row (o := ⟨some 12, _, _, _, _, _⟩) rfl 27 _ rfl (w.heap.size) rfl 27 (tpC t a) (0, 0) _ (HG0.out).raw11 Try.underlying27 rfl (by kernel_rfl) ?_)
  refine (rcheck_any t a wa (HT.out wa HBWA.out) HLT.out HCJ.out).mono ?_
  rw [HCE.out]
  rintro e w1 ⟨rfl, hb⟩
  have HB := HBWA
  clear HBWA
  have HB := Lib.hid (HB.out.trans (hb.mono HB.out.size))
  have HG0 := Lib.hid (HG0.out.under hb HG0.out.lt)
  have HG1 := Lib.hid (HG1.out.under hb HG1.out.lt)
  clear hb
  by_cases z0 : cE = 0
  rotate_left
  · have x1 : (cE != 0) = true := by simp [z0]
    have x2 : (cE == 0) = false := by simp [z0]
    have HZ0 := Lib.hid z0
    have HR := Lib.hid (has_row11 HG1.out #[.int .i64 0, .int .i64 0, .bool false])
    have HBF := Lib.hid (below_row (g := w.heap.size + 1) HB.out (by omega) #[.int .i64 0, .int .i64 0, .bool false])
    go_wp2_with (with_reducible refine wpList_store_rowTo (o := ⟨none, _, _, _, _, _⟩) rfl 29 _ _ rfl rfl (w.heap.size + 1) #[.int .i64 0, .int .i64 0, .bool false] rfl rfl 29 _ (HG1.out).raw11 (by kernel_rfl) (by kernel_rfl) (by kernel_rfl) ?_)
    refine bodyPost_ret (results_row_tmp11 rfl _ _ (w.heap.size + 1) 29 _ _ rfl HR.out Try.underlying29 rfl (by kernel_rfl)) rfl ?_
    obtain ⟨rfl, rfl⟩ := Prod.mk.inj (show (rP, rE) = (zeroP, 1) from HLE.out.symm.trans (loc_bad14 (by rw [HCE.out]; exact HZ0.out)))
    exact ⟨rfl, HBF.out⟩
  subst z0
  go_upto_region 3 with fail
  go_wp2_with (with_reducible refine wpList_load_row (o := ⟨some 17, _, _, _, _, _⟩) rfl 27 _ rfl (w.heap.size) rfl 27 (tpC t a) (0, 0) _ (HG0.out).raw11 Try.underlying27 rfl (by kernel_rfl) ?_)
  refine (rbal_any t a id w1 (HT.out w1 HB.out) (by have := HNN.out.2.2.1; omega)).mono ?_
  rintro e w2 ⟨rfl, hb⟩
  have HB := Lib.hid (HB.out.trans (hb.mono HB.out.size))
  have HG0 := Lib.hid (HG0.out.under hb HG0.out.lt)
  have HG1 := Lib.hid (HG1.out.under hb HG1.out.lt)
  clear hb
  obtain ⟨x, hx⟩ : ∃ x, balR t id = x := ⟨_, rfl⟩
  obtain ⟨bs, hbs⟩ : ∃ b, (balF t id).isSome = b := ⟨_, rfl⟩
  have HX := Lib.hid hx
  have HBS := Lib.hid hbs
  simp only [hx, hbs]
  clear hx hbs
  have hm5 : Has (w2.alloc (.cells #[.int .i64 0, .int .i64 0, .int .i64 0] 62)) w2.heap.size 62 #[.int .i64 0, .int .i64 0, .int .i64 0] := Has.made _ _ _
  have HM5 := Lib.hid hm5
  obtain ⟨w6, hw6⟩ : ∃ w6, (w2.alloc (.cells #[.int .i64 0, .int .i64 0, .int .i64 0] 62)).setRow w2.heap.size (blA x) = w6 := ⟨_, rfl⟩
  have hb : Below w2.heap.size w2 w6 := by rw [← hw6]; exact below_row (g := w2.heap.size) ((Below.refl _ _).alloc (Nat.le_refl _) _) (Nat.le_refl _) _
  have HX6 := Lib.hid (show Has w6 w2.heap.size 62 (blA x) from by rw [← hw6]; exact has_row11 HM5.out _)
  have HWW := Lib.hid hw6
  clear hw6 hm5
  go_upto_region 4 with (with_reducible refine wpList_store_rowTo (o := ⟨none, _, _, _, _, _⟩) rfl 62 _ _ rfl rfl (w2.heap.size) (blA x) rfl rfl 62 _ (HM5.out).raw11 (by kernel_rfl) (by kernel_rfl) (by kernel_rfl) ?_)
  rw [HWW.out]
  clear HWW HM5
  have HB := Lib.hid (HB.out.trans (hb.mono HB.out.size))
  have HG0 := Lib.hid (HG0.out.under hb HG0.out.lt)
  have HG1 := Lib.hid (HG1.out.under hb HG1.out.lt)
  clear hb
  cases bs with
  | false =>
    have HR := Lib.hid (has_row11 HG1.out #[.int .i64 0, .int .i64 0, .bool false])
    have HBF := Lib.hid (below_row (g := w.heap.size + 1) HB.out (by omega) #[.int .i64 0, .int .i64 0, .bool false])
    go_wp2_with (with_reducible refine wpList_store_rowTo (o := ⟨none, _, _, _, _, _⟩) rfl 29 _ _ rfl rfl (w.heap.size + 1) #[.int .i64 0, .int .i64 0, .bool false] rfl rfl 29 _ (HG1.out).raw11 (by kernel_rfl) (by kernel_rfl) (by kernel_rfl) ?_)
    refine bodyPost_ret (results_row_tmp11 rfl _ _ (w.heap.size + 1) 29 _ _ rfl HR.out Try.underlying29 rfl (by kernel_rfl)) rfl ?_
    obtain ⟨rfl, rfl⟩ := Prod.mk.inj (show (rP, rE) = (zeroP, 4) from HLE.out.symm.trans (loc_none14 HCE.out HBS.out))
    exact ⟨rfl, HBF.out⟩
  | true =>
    have HLE3 := Lib.hid (show (rP, rE) = walkE t ⟨x.edge, x.at_, rev⟩ n from by rw [← HLE.out, loc_some14 HCE.out HBS.out, HX.out])
    clear HLE HCE HX HBS
    have d1 : w6.cell? ⟨w2.heap.size, 1, none⟩ = some (.int .i64 x.edge) := HX6.out.cell 1
    have d2 : w6.cell? ⟨w2.heap.size, 2, none⟩ = some (.int .i64 x.at_) := HX6.out.cell 2
    go_upto_region 6 with fail
    go_wp2_with (with_reducible refine wpList_load_row (o := ⟨some 25, _, _, _, _, _⟩) rfl 27 _ rfl (w.heap.size) rfl 27 (tpC t a) (0, 0) _ (HG0.out).raw11 Try.underlying27 rfl (by kernel_rfl) ?_)
    refine (rwalk_any t a ⟨x.edge, x.at_, rev⟩ n w6 (HT.out w6 HB.out) HLT.out HCJ.out).mono ?_
    rw [← HLE3.out]
    rintro e w7 ⟨rfl, hb⟩
    clear d1 d2 HX6
    have HB := Lib.hid (HB.out.trans (hb.mono HB.out.size))
    have HG0 := Lib.hid (HG0.out.under hb HG0.out.lt)
    have HG1 := Lib.hid (HG1.out.under hb HG1.out.lt)
    clear hb
    have HR := Lib.hid (has_row11 HG1.out (psA rP))
    have HBF := Lib.hid (below_row (g := w.heap.size + 1) HB.out (by omega) (psA rP))
    go_wp2_with (with_reducible refine wpList_store_rowTo (o := ⟨none, _, _, _, _, _⟩) rfl 29 _ _ rfl rfl (w.heap.size + 1) (psA rP) rfl rfl 29 _ (HG1.out).raw11 (by kernel_rfl) (by kernel_rfl) (by kernel_rfl) ?_)
    refine bodyPost_ret (results_row_tmp11 rfl _ _ (w.heap.size + 1) 29 _ _ rfl HR.out Try.underlying29 rfl (by kernel_rfl)) rfl ?_
    exact ⟨rfl, HBF.out⟩

set_option maxRecDepth 100000 in
set_option maxHeartbeats 8000000 in
theorem ron_any (t : Tp3) (a : TpA) (path : List St3) (A : Option Addr) (n c : Nat) (p : Ps3) (w : World) (ht : TopR w t a) (hlt : lightT t = true) (hcj : t.joints.length ≤ a.cj) (hp : SlO stC 2 w A n c path) (hn : n ≤ 1048576) :
    Calls Try.prog 19 #[.agg (tpC t a), .slice A n c, .agg (psA p)] w fun e w' => e = .returned (.tuple #[.int .i64 (onE t path p).1, .int .i64 (onE t path p).2]) ∧ Below w.heap.size w w' := by
  obtain ⟨rN, hrN⟩ : ∃ r, (onE t path p).1 = r := ⟨_, rfl⟩
  obtain ⟨rE, hrE⟩ : ∃ r, (onE t path p).2 = r := ⟨_, rfl⟩
  have HOE := Lib.hid (show onE t path p = (rN, rE) from Prod.ext hrN hrE)
  rw [hrN, hrE]
  clear hrN hrE
  have HLT := Lib.hid hlt
  have HNN := Lib.hid (light_nums13 hlt)
  have HCJ := Lib.hid hcj
  have HNL := Lib.hid hn
  have HL := Lib.hid hp.1
  clear hlt hcj hn
  obtain ⟨wa, hwa⟩ : ∃ wa, (w.alloc (.cells (tpC t a) 27)).alloc (.cells (psA p) 29) = wa := ⟨_, rfl⟩
  have hbwa : Below w.heap.size w wa := by rw [← hwa]; exact ((Below.refl _ _).alloc (Nat.le_refl _) _).alloc (by simp) _
  have h0 : Has wa (w.heap.size) 27 (tpC t a) := by rw [← hwa]; exact ((Has.made _ _ _).beside _)
  have h1 : Has wa (w.heap.size + 1) 29 (psA p) := by rw [← hwa]; exact (has_at11 (by simp))
  have HWA := Lib.hid hwa; have HBWA := Lib.hid hbwa
  have HT := Lib.hid (fun W (hW : Below w.heap.size w W) => ht.under hW)
  have HP := Lib.hid (fun W (hW : Below w.heap.size w W) => hp.under hW)
  have HG0 := Lib.hid h0
  have HG1 := Lib.hid h1
  obtain ⟨b, hb⟩ : ∃ b, rightP t p = b := ⟨_, rfl⟩
  have HRB := Lib.hid hb
  clear hwa hbwa h0 h1 hb ht hp
  go_enter Try.func19, Try.ntmps19
  go_upto_region 1 with fail
  rw [HWA.out]
  clear HWA
  go_wp2_with (first | (with_reducible refine wpList_load_row (o := ⟨some 13, _, _, _, _, _⟩) rfl 27 _ rfl (w.heap.size) rfl 27 (tpC t a) (0, 0) _ (HG0.out).raw11 Try.underlying27 rfl (by kernel_rfl) ?_) | (with_reducible refine wpList_load_row (o := ⟨some 14, _, _, _, _, _⟩) rfl 29 _ rfl (w.heap.size + 1) rfl 29 (psA p) (0, 0) _ (HG1.out).raw11 Try.underlying29 rfl (by kernel_rfl) ?_))
  refine (rright_any t a p wa (HT.out wa HBWA.out) HLT.out HCJ.out).mono ?_
  rw [HRB.out]
  rintro e w1 ⟨rfl, hb⟩
  have HB := HBWA
  clear HBWA
  have HB := Lib.hid (HB.out.trans (hb.mono HB.out.size))
  have HG0 := Lib.hid (HG0.out.under hb HG0.out.lt)
  have HG1 := Lib.hid (HG1.out.under hb HG1.out.lt)
  clear hb
  cases b with
  | false =>
    go_wp2
    go_ret2
    obtain ⟨rfl, rfl⟩ := Prod.mk.inj (show (rN, rE) = (0, 1) from HOE.out.symm.trans (on_bad14 HRB.out))
    exact ⟨rfl, HB.out⟩
  | true =>
    have HRR := Lib.hid (right_iff.1 HRB.out)
    have HED := Lib.hid (check_routes HRR.out.1).1
    have HON := Lib.hid HRR.out.2
    clear HRR
    go_upto_region 4 with fail
    go_wp2_with (with_reducible refine wpList_load_row (o := ⟨some 19, _, _, _, _, _⟩) rfl 27 _ rfl (w.heap.size) rfl 27 (tpC t a) (0, 0) _ (HG0.out).raw11 Try.underlying27 rfl (by kernel_rfl) ?_)
    refine (rlength_any t a path A n c w1 (HT.out w1 HB.out) (HP.out w1 HB.out) HNL.out HNN.out.2.1 HED.out).mono ?_
    rintro e w2 ⟨rfl, hb⟩
    have HB := Lib.hid (HB.out.trans (hb.mono HB.out.size))
    have HG0 := Lib.hid (HG0.out.under hb HG0.out.lt)
    have HG1 := Lib.hid (HG1.out.under hb HG1.out.lt)
    clear hb
    obtain ⟨lN, hlN⟩ : ∃ x, lenN t path = x := ⟨_, rfl⟩
    obtain ⟨lE, hlE⟩ : ∃ x, lenE t path = x := ⟨_, rfl⟩
    have HLE := Lib.hid hlE
    simp only [hlN, hlE]
    clear hlN hlE
    by_cases z0 : lE = 0
    rotate_left
    · have x1 : (lE != 0) = true := by simp [z0]
      have x2 : (lE == 0) = false := by simp [z0]
      have HZ0 := Lib.hid z0
      go_wp2
      go_ret2
      obtain ⟨rfl, rfl⟩ := Prod.mk.inj (show (rN, rE) = (0, lE) from HOE.out.symm.trans (by rw [on_len14 HRB.out (by rw [HLE.out]; exact HZ0.out), HLE.out]))
      exact ⟨rfl, HB.out⟩
    subst z0
    have HLO := Lib.hid (len_ok HLE.out)
    have hn40 : n ≤ 40 := by have h1_ := HLO.out.2.1; have h2_ := HL.out; omega
    have HN4 := Lib.hid (show n ≤ 40 from by have h1_ := HLO.out.2.1; have h2_ := HL.out; omega)
    go_upto_region 8 with fail
    go_wp2
    go_loopg [11, 12] n (fun kk v11 v12 wl => ∃ (i k : Nat) (sv : Int), i ≤ n ∧ n - i ≤ kk ∧ v12 = .int .i64 i ∧ v11 = .int .i64 sv ∧ Hid (sumT t (path.take i) = sv) ∧ Hid (onGo t p path 0 = onGo t p (path.drop i) sv) ∧ wl = w2.drewN k)
    case atStart => exact ⟨0, 0, 0, by omega, by omega, rfl, rfl, Lib.hid (by simp [sumT]), Lib.hid (by simp), rfl⟩
    case round =>
      obtain ⟨i, k, sv, hi, hik, rfl, rfl, HSV, HGO, hwr⟩ := hrel
      skip
      have HBR := Lib.hid (show Below w.heap.size w wr from by rw [hwr]; exact below_draws HB.out k)
      have HBR2 := Lib.hid (show Below w2.heap.size w2 wr from by rw [hwr]; exact below_draws (Below.refl _ _) k)
      have HWR := Lib.hid hwr
      clear hwr
      by_cases hlt : i < n
      rotate_left
      · obtain rfl : i = n := by omega
        have x1 : ¬ (i : Int) < i := by omega
        clear hi hik hlt
        go_wp2
        go_ret2
        obtain ⟨rfl, rfl⟩ := Prod.mk.inj (show (rN, rE) = (0, 4) from HOE.out.symm.trans (on_none14 HRB.out HLE.out (by rw [HGO.out, List.drop_of_length_le (by rw [HL.out]; exact Nat.le_refl _)]; rfl)))
        exact ⟨rfl, HBR.out⟩
      obtain ⟨x, hx⟩ : ∃ x, path[i]? = some x := ⟨_, List.getElem?_eq_getElem (by rw [HL.out]; omega)⟩
      have HX := Lib.hid hx
      obtain ⟨bk, off, rfl, e0, e1⟩ := (HP.out wr HBR.out).step hx
      have hxe := HLO.out.2.2.1 x (List.mem_of_getElem? hx)
      have HXE := Lib.hid hxe
      have hxe2 := hxe
      unfold edgeB at hxe2
      simp only [Bool.and_eq_true, decide_eq_true_eq] at hxe2
      obtain ⟨ke, hke⟩ : ∃ k : Nat, x.edge = k := ⟨x.edge.toNat, by omega⟩
      have hkl : ke < t.edges.length := by omega
      obtain ⟨be, oe, hae, ce⟩ := (HT.out wr HBR.out).e.edge hkl
      have HLA := Lib.hid (show lenAt t x = t.edges.getD ke 0 from by unfold lenAt; rw [hke]; rfl)
      obtain ⟨q, hq⟩ : ∃ q, t.edges.getD ke 0 = q := ⟨_, rfl⟩
      rw [hq] at HLA ce
      have HQ := Lib.hid (show 1 ≤ q ∧ q ≤ 1000000 from by rw [← HLA.out]; exact lenAt_ok HED.out hxe)
      have HSB := Lib.hid (show 0 ≤ sv ∧ sv ≤ 40000000 from by have h1_ := sum_ok HED.out (path := path.take i) (fun s hs => HLO.out.2.2.1 s (List.mem_of_mem_take hs)); have h2_ := HSV.out; have h3_ : (path.take i).length ≤ 40 := (by rw [List.length_take]; have := HN4.out; omega); omega)
      have c0 : wr.cell? ⟨w.heap.size, 0, none⟩ = some (.slice (some ⟨be, oe, none⟩) t.edges.length a.ce) := by have h_ := (HG0.out.under HBR2.out HG0.out.lt).cell 0; rw [← hae]; exact h_
      have d0 : wr.cell? ⟨w.heap.size + 1, 0, none⟩ = some (.int .i64 p.edge) := (HG1.out.under HBR2.out HG1.out.lt).cell 0
      have d2 : wr.cell? ⟨w.heap.size + 1, 2, none⟩ = some (.bool p.rev) := (HG1.out.under HBR2.out HG1.out.lt).cell 2
      obtain ⟨ne, hne⟩ : ∃ m, t.edges.length = m := ⟨_, rfl⟩
      rw [hne] at c0 hkl
      have HKE := Lib.hid hke
      rw [hke] at e0
      have y0 : (0 : Int) ≤ i := by omega
      have y1 : (i : Int) < n := by omega
      have z0 : (0 : Int) ≤ ke := by omega
      have z1 : (ke : Int) < ne := by omega
      have hwr1 : IntKind.i64.wrap (sv + q) = sv + q := by have h1_ := HQ.out; have h2_ := HSB.out; rw [IntKind.wrap_i64]; omega
      clear hx hxe hxe2 hke hkl hae hq hne
      go_upto_region 11 with fail
      go_quiet (fail)
      clear c0 ce z0 z1 hwr1
      obtain ⟨xe, xr⟩ := x
      dsimp only at *
      skip
      by_cases ze : (ke : Int) = p.edge
      rotate_left
      · have g1 : ((ke : Int) == p.edge) = false := by simp [ze]
        have g2 : decide ((ke : Int) = p.edge) = false := decide_eq_false ze
        have HZE := Lib.hid (show ¬ xe = p.edge from by rw [HKE.out]; exact ze)
        go_upto_region 12 with fail
        go_quiet (fail)
        go_wp2
        go_roundg (gk - 1)
        case measure => omega
        case rel =>
          refine ⟨i + 1, _, sv + q, by omega, by omega, by go_num, rfl, Lib.hid (by rw [sum_take14 HX.out, HSV.out, HLA.out]), Lib.hid (by rw [HGO.out, on_drop14 HX.out, if_neg (by rw [eqS_iff]; intro e_; exact HZE.out (congrArg St3.edge e_)), HLA.out]), by first | (rw [HWR.out]; rfl) | (rw [HWR.out, World.drewN_drewN]) | (rw [HWR.out]; simp only [World.drewN_drewN]; rfl)⟩
      by_cases zr : xr = p.rev
      rotate_left
      · have g1 : (xr == p.rev) = false := by simp [zr]
        have g2 : decide (xr = p.rev) = false := decide_eq_false zr
        have HZR := Lib.hid zr
        go_upto_region 12 with fail
        go_quiet (fail)
        go_wp2
        go_roundg (gk - 1)
        case measure => omega
        case rel =>
          refine ⟨i + 1, _, sv + q, by omega, by omega, by go_num, rfl, Lib.hid (by rw [sum_take14 HX.out, HSV.out, HLA.out]), Lib.hid (by rw [HGO.out, on_drop14 HX.out, if_neg (by rw [eqS_iff]; intro e_; exact HZR.out (congrArg St3.rev e_)), HLA.out]), by first | (rw [HWR.out]; rfl) | (rw [HWR.out, World.drewN_drewN]) | (rw [HWR.out]; simp only [World.drewN_drewN]; rfl)⟩
      have HEQ := Lib.hid (show eqS ⟨xe, xr⟩ (stepP p) = true from (eqS_iff _ _).2 (by rw [HKE.out, ze, zr]; rfl))
      go_upto_region 12 with fail
      go_quiet (fail)
      go_upto_region 13 with fail
      clear e0 e1 d0 d2 y0 y1 ze zr
      have HG0r := Lib.hid (HG0.out.under HBR2.out HG0.out.lt)
      have HG1r := Lib.hid (HG1.out.under HBR2.out HG1.out.lt)
      obtain ⟨ah, hah⟩ : ∃ x, aheadP t p = x := ⟨_, rfl⟩
      have HAH := Lib.hid hah
      have HAB := Lib.hid (show 0 ≤ ah ∧ ah ≤ 1000000 from by rw [← hah]; exact ahead_ok HED.out HON.out)
      clear hah
      rw [World.drewN_drewN]
      go_wp2_with (first | (with_reducible refine wpList_load_row (o := ⟨some 63, _, _, _, _, _⟩) rfl 27 _ rfl (w.heap.size) rfl 27 (tpC t a) (0, 0) _ ((HG0r.out.under (below_draws (Below.refl wr.heap.size wr) _) HG0r.out.lt)).raw11 Try.underlying27 rfl (by kernel_rfl) ?_) | (with_reducible refine wpList_load_row (o := ⟨some 64, _, _, _, _, _⟩) rfl 29 _ rfl (w.heap.size + 1) rfl 29 (psA p) (0, 0) _ ((HG1r.out.under (below_draws (Below.refl wr.heap.size wr) _) HG1r.out.lt)).raw11 Try.underlying29 rfl (by kernel_rfl) ?_))
      refine (rahead_any t a p _ (HT.out _ (below_draws HBR.out _)) HON.out HED.out).mono ?_
      rw [HAH.out]
      rintro e w5 ⟨rfl, hb⟩
      have HB5 := Lib.hid ((below_draws HBR.out _).trans (hb.mono (below_draws HBR.out _).size))
      clear hb
      have hwr2 : IntKind.i64.wrap (sv + q - ah) = sv + q - ah := by have h1_ := HQ.out; have h2_ := HSB.out; have h3_ := HAB.out; rw [IntKind.wrap_i64]; omega
      go_wp2
      go_ret2
      obtain ⟨rfl, rfl⟩ := Prod.mk.inj (show (rN, rE) = (sv + q - ah, 0) from HOE.out.symm.trans (on_some14 HRB.out HLE.out (by rw [HGO.out, on_drop14 HX.out, if_pos HEQ.out, HLA.out, HAH.out])))
      exact ⟨rfl, HB5.out⟩

end Go.Proofs.Ytfchmjldhefmkaa
