/-
  package place as landed: Locate, On, Off.
-/
import Derived.Test.YtfchmjldhefmkaaPlOwnB
import Derived.Test.YtfchmjldhefmkaaPlRefE
import Derived.Test.YtfchmjldhefmkaaToLenW
import Derived.Test.YtfchmjldhefmkaaToBack
import Derived.Test.YtfchmjldhefmkaaOpenPl
import Derived.BigQuiet
import Derived.IntWalk
namespace Go.Proofs.Ytfchmjldhefmkaa
open Go.RowKit
open Go.Great

theorem on_idx_none {t : Tp3} {p : Ps3} {path : List St3} (h : ∀ (i : Nat) (y : St3), path[i]? = some y → eqS (stepP p) y = false) (c : Int) : onGo t p path c = none := by
  induction path generalizing c with
  | nil => rfl
  | cons x r ih =>
    have h0 := h 0 x rfl
    rw [onGo, if_neg (by rw [eqS_iff]; intro e; rw [← e, (eqS_iff x x).2 rfl] at h0; cases h0)]
    exact ih (fun i y hy => h (i + 1) y (by simpa using hy)) _
theorem on_idx_some {t : Tp3} {p : Ps3} {path : List St3} {j : Nat} {x : St3} (hx : path[j]? = some x) (hp : eqS (stepP p) x = true) (hno : ∀ (i : Nat) (y : St3), i < j → path[i]? = some y → eqS (stepP p) y = false) : onGo t p path 0 = some (distP t p + sumT t (path.take j)) := by
  obtain ⟨h1, e⟩ := List.getElem?_eq_some_iff.1 hx
  have e1 : path = path.take j ++ path.drop j := (List.take_append_drop j path).symm
  have hn : ∀ s ∈ path.take j, s ≠ stepP p := by
    intro s hs e
    obtain ⟨i, hi, rfl⟩ := List.getElem_of_mem hs
    rw [List.length_take] at hi
    have h2 := hno i _ (by omega) (List.getElem?_eq_getElem (show i < path.length by omega))
    rw [List.getElem_take] at e
    rw [e, (eqS_iff _ _).2 rfl] at h2
    cases h2
  have hpx : x = stepP p := ((eqS_iff _ _).1 hp).symm
  rw [show onGo t p path 0 = onGo t p (path.take j ++ path.drop j) 0 by rw [← e1], on_app hn, on_drop14 hx, if_pos ((eqS_iff _ _).2 hpx)]
  congr 1
  rw [hpx, lenAt_edge, dist_ahead]
  show 0 + sumT t (path.take j) + edgeLen t p.edge - aheadP t p = edgeLen t p.edge - aheadP t p + sumT t (path.take j)
  omega

set_option maxRecDepth 100000 in
set_option maxHeartbeats 8000000 in
theorem opl_locate (t : Tp3) (a : TpA) (id : Int) (rev : Bool) (n : Int) (w : World) (ht : TopR w t a) (hlt : lightT t = true) (hcj : t.joints.length ≤ a.cj) (hr : (-9223372036854775808 ≤ n ∧ n ≤ 9223372036854775807)) :
    Calls Try.prog 12 #[.agg (tpC t a), .int .i64 id, .bool rev, .int .i64 n] w fun e w' => e = .returned (.tuple #[.agg (psA (locE t id rev n).1), .int .i64 (locE t id rev n).2]) ∧ Below w.heap.size w w' := by
  have HNR := Lib.hid hr
  clear hr
  obtain ⟨rP, hrP⟩ : ∃ r, (locE t id rev n).1 = r := ⟨_, rfl⟩
  obtain ⟨rE, hrE⟩ : ∃ r, (locE t id rev n).2 = r := ⟨_, rfl⟩
  have HLE := Lib.hid (show locE t id rev n = (rP, rE) from Prod.ext hrP hrE)
  rw [hrP, hrE]
  clear hrP hrE
  have HLT := Lib.hid hlt
  have HCJ := Lib.hid hcj
  obtain ⟨cE, hcE⟩ : ∃ e, checkE t = e := ⟨_, rfl⟩
  have HCE := Lib.hid hcE
  clear hlt hcj hcE
  obtain ⟨wa, hwa⟩ : ∃ wa, (w.alloc (.cells (tpC t a) 27)).alloc (.cells #[.int .i64 0, .int .i64 0, .bool false] 29) = wa := ⟨_, rfl⟩
  have hbwa : Below w.heap.size w wa := by rw [← hwa]; exact ((Below.refl _ _).alloc (Nat.le_refl _) _).alloc (by simp) _
  have h0 : Has wa (w.heap.size) 27 (tpC t a) := by rw [← hwa]; exact ((Has.made _ _ _).beside _)
  have h1 : Has wa (w.heap.size + 1) 29 #[.int .i64 0, .int .i64 0, .bool false] := by rw [← hwa]; exact (has_at11 (by simp))
  have HWA := Lib.hid hwa; have HBWA := Lib.hid hbwa
  have HT := Lib.hid (fun W (hW : Below w.heap.size w W) => ht.under hW)
  have HG0 := Lib.hid h0
  have HG1 := Lib.hid h1
  clear hwa hbwa h0 h1 ht
  go_enter Try.func12, Try.ntmps12
  go_upto_region 1 with fail
  rw [HWA.out]
  clear HWA
  go_wp2_with (with_reducible refine wpList_load_row (o := ⟨some 12, _, _, _, _, _⟩) rfl 27 _ rfl (w.heap.size) rfl 27 (tpC t a) (0, 0) _ (HG0.out).raw11 Try.underlying27 rfl (by kernel_rfl) ?_)
  refine (otp_check t a wa (HT.out wa HBWA.out) HLT.out HCJ.out).mono ?_
  rw [HCE.out]
  rintro e w1 ⟨rfl, hb⟩
  have HB := HBWA
  clear HBWA
  have HB := Lib.hid (HB.out.trans (hb.mono HB.out.size))
  have HG0 := Lib.hid (HG0.out.under hb HG0.out.lt)
  have HG1 := Lib.hid (HG1.out.under hb HG1.out.lt)
  clear hb
  by_cases z0 : cE = 0
  rotate_left
  · have x1 : (cE != 0) = true := by simp [z0]
    have x2 : (cE == 0) = false := by simp [z0]
    have HZ0 := Lib.hid z0
    have HR := Lib.hid (has_row11 HG1.out #[.int .i64 0, .int .i64 0, .bool false])
    have HBF := Lib.hid (below_row (g := w.heap.size + 1) HB.out (by omega) #[.int .i64 0, .int .i64 0, .bool false])
    go_wp2_with (with_reducible refine wpList_store_rowTo (o := ⟨none, _, _, _, _, _⟩) rfl 29 _ _ rfl rfl (w.heap.size + 1) #[.int .i64 0, .int .i64 0, .bool false] rfl rfl 29 _ (HG1.out).raw11 (by kernel_rfl) (by kernel_rfl) (by kernel_rfl) ?_)
    refine bodyPost_ret (results_row_tmp11 rfl _ _ (w.heap.size + 1) 29 _ _ rfl HR.out Try.underlying29 rfl (by kernel_rfl)) rfl ?_
    obtain ⟨rfl, rfl⟩ := Prod.mk.inj (show (rP, rE) = (zeroP, 1) from HLE.out.symm.trans (loc_bad14 (by rw [HCE.out]; exact HZ0.out)))
    exact ⟨rfl, HBF.out⟩
  subst z0
  go_upto_region 3 with fail
  go_wp2_with (with_reducible refine wpList_load_row (o := ⟨some 17, _, _, _, _, _⟩) rfl 27 _ rfl (w.heap.size) rfl 27 (tpC t a) (0, 0) _ (HG0.out).raw11 Try.underlying27 rfl (by kernel_rfl) ?_)
  refine (otp_bal t a id w1 (HT.out w1 HB.out) HLT.out).mono ?_
  rintro e w2 ⟨rfl, hb⟩
  have HB := Lib.hid (HB.out.trans (hb.mono HB.out.size))
  have HG0 := Lib.hid (HG0.out.under hb HG0.out.lt)
  have HG1 := Lib.hid (HG1.out.under hb HG1.out.lt)
  clear hb
  obtain ⟨x, hx⟩ : ∃ x, balR t id = x := ⟨_, rfl⟩
  obtain ⟨bs, hbs⟩ : ∃ b, (balF t id).isSome = b := ⟨_, rfl⟩
  have HX := Lib.hid hx
  have HBS := Lib.hid hbs
  simp only [hx, hbs]
  clear hx hbs
  have hm5 : Has (w2.alloc (.cells #[.int .i64 0, .int .i64 0, .int .i64 0] 62)) w2.heap.size 62 #[.int .i64 0, .int .i64 0, .int .i64 0] := Has.made _ _ _
  have HM5 := Lib.hid hm5
  obtain ⟨w6, hw6⟩ : ∃ w6, (w2.alloc (.cells #[.int .i64 0, .int .i64 0, .int .i64 0] 62)).setRow w2.heap.size (blA x) = w6 := ⟨_, rfl⟩
  have hb : Below w2.heap.size w2 w6 := by rw [← hw6]; exact below_row (g := w2.heap.size) ((Below.refl _ _).alloc (Nat.le_refl _) _) (Nat.le_refl _) _
  have HX6 := Lib.hid (show Has w6 w2.heap.size 62 (blA x) from by rw [← hw6]; exact has_row11 HM5.out _)
  have HWW := Lib.hid hw6
  clear hw6 hm5
  go_upto_region 4 with (with_reducible refine wpList_store_rowTo (o := ⟨none, _, _, _, _, _⟩) rfl 62 _ _ rfl rfl (w2.heap.size) (blA x) rfl rfl 62 _ (HM5.out).raw11 (by kernel_rfl) (by kernel_rfl) (by kernel_rfl) ?_)
  rw [HWW.out]
  clear HWW HM5
  have HB := Lib.hid (HB.out.trans (hb.mono HB.out.size))
  have HG0 := Lib.hid (HG0.out.under hb HG0.out.lt)
  have HG1 := Lib.hid (HG1.out.under hb HG1.out.lt)
  clear hb
  cases bs with
  | false =>
    have HR := Lib.hid (has_row11 HG1.out #[.int .i64 0, .int .i64 0, .bool false])
    have HBF := Lib.hid (below_row (g := w.heap.size + 1) HB.out (by omega) #[.int .i64 0, .int .i64 0, .bool false])
    go_wp2_with (with_reducible refine wpList_store_rowTo (o := ⟨none, _, _, _, _, _⟩) rfl 29 _ _ rfl rfl (w.heap.size + 1) #[.int .i64 0, .int .i64 0, .bool false] rfl rfl 29 _ (HG1.out).raw11 (by kernel_rfl) (by kernel_rfl) (by kernel_rfl) ?_)
    refine bodyPost_ret (results_row_tmp11 rfl _ _ (w.heap.size + 1) 29 _ _ rfl HR.out Try.underlying29 rfl (by kernel_rfl)) rfl ?_
    obtain ⟨rfl, rfl⟩ := Prod.mk.inj (show (rP, rE) = (zeroP, 4) from HLE.out.symm.trans (loc_none14 HCE.out HBS.out))
    exact ⟨rfl, HBF.out⟩
  | true =>
    have HLE3 := Lib.hid (show (rP, rE) = walkE t ⟨x.edge, x.at_, rev⟩ n from by rw [← HLE.out, loc_some14 HCE.out HBS.out, HX.out])
    clear HLE HCE HX HBS
    have d1 : w6.cell? ⟨w2.heap.size, 1, none⟩ = some (.int .i64 x.edge) := HX6.out.cell 1
    have d2 : w6.cell? ⟨w2.heap.size, 2, none⟩ = some (.int .i64 x.at_) := HX6.out.cell 2
    go_upto_region 6 with fail
    go_wp2_with (with_reducible refine wpList_load_row (o := ⟨some 25, _, _, _, _, _⟩) rfl 27 _ rfl (w.heap.size) rfl 27 (tpC t a) (0, 0) _ (HG0.out).raw11 Try.underlying27 rfl (by kernel_rfl) ?_)
    refine (opl_walk t a ⟨x.edge, x.at_, rev⟩ n w6 (HT.out w6 HB.out) HLT.out HCJ.out HNR.out).mono ?_
    rw [← HLE3.out]
    rintro e w7 ⟨rfl, hb⟩
    clear d1 d2 HX6
    have HB := Lib.hid (HB.out.trans (hb.mono HB.out.size))
    have HG0 := Lib.hid (HG0.out.under hb HG0.out.lt)
    have HG1 := Lib.hid (HG1.out.under hb HG1.out.lt)
    clear hb
    have HR := Lib.hid (has_row11 HG1.out (psA rP))
    have HBF := Lib.hid (below_row (g := w.heap.size + 1) HB.out (by omega) (psA rP))
    go_wp2_with (with_reducible refine wpList_store_rowTo (o := ⟨none, _, _, _, _, _⟩) rfl 29 _ _ rfl rfl (w.heap.size + 1) (psA rP) rfl rfl 29 _ (HG1.out).raw11 (by kernel_rfl) (by kernel_rfl) (by kernel_rfl) ?_)
    refine bodyPost_ret (results_row_tmp11 rfl _ _ (w.heap.size + 1) 29 _ _ rfl HR.out Try.underlying29 rfl (by kernel_rfl)) rfl ?_
    exact ⟨rfl, HBF.out⟩

set_option maxRecDepth 100000 in
set_option maxHeartbeats 8000000 in
theorem opl_on (t : Tp3) (a : TpA) (path : List St3) (A : Option Addr) (n c : Nat) (p : Ps3) (w : World) (ht : TopR w t a) (hlt : lightT t = true) (hcj : t.joints.length ≤ a.cj) (hp : SlO stC 2 w A n c path) (hn : n ≤ 100) (hc : n ≤ c) :
    Calls Try.prog 18 #[.agg (tpC t a), .slice A n c, .agg (psA p)] w fun e w' => e = .returned (.tuple #[.int .i64 (onE t path p).1, .int .i64 (onE t path p).2]) ∧ Below w.heap.size w w' := by
  obtain ⟨rN, hrN⟩ : ∃ r, (onE t path p).1 = r := ⟨_, rfl⟩
  obtain ⟨rE, hrE⟩ : ∃ r, (onE t path p).2 = r := ⟨_, rfl⟩
  have HOE := Lib.hid (show onE t path p = (rN, rE) from Prod.ext hrN hrE)
  rw [hrN, hrE]
  clear hrN hrE
  have HLT := Lib.hid hlt
  have HCJ := Lib.hid hcj
  have HNL := Lib.hid (show n ≤ 1048576 by omega)
  have HCN := Lib.hid hc
  have HL := Lib.hid hp.1
  clear hlt hcj hn hc
  obtain ⟨wa, hwa⟩ : ∃ wa, (w.alloc (.cells (tpC t a) 27)).alloc (.cells (psA p) 29) = wa := ⟨_, rfl⟩
  have hbwa : Below w.heap.size w wa := by rw [← hwa]; exact ((Below.refl _ _).alloc (Nat.le_refl _) _).alloc (by simp) _
  have h0 : Has wa (w.heap.size) 27 (tpC t a) := by rw [← hwa]; exact ((Has.made _ _ _).beside _)
  have h1 : Has wa (w.heap.size + 1) 29 (psA p) := by rw [← hwa]; exact (has_at11 (by simp))
  have HWA := Lib.hid hwa; have HBWA := Lib.hid hbwa
  have HT := Lib.hid (fun W (hW : Below w.heap.size w W) => ht.under hW)
  have HP := Lib.hid (fun W (hW : Below w.heap.size w W) => hp.under hW)
  have HG0 := Lib.hid h0
  have HG1 := Lib.hid h1
  obtain ⟨b, hb⟩ : ∃ b, rightP t p = b := ⟨_, rfl⟩
  have HRB := Lib.hid hb
  clear hwa hbwa h0 h1 hb ht hp
  go_enter Try.func18, Try.ntmps18
  go_upto_region 1 with fail
  rw [HWA.out]
  clear HWA
  go_wp2_with (first | (with_reducible refine wpList_load_row (o := ⟨some 14, _, _, _, _, _⟩) rfl 27 _ rfl (w.heap.size) rfl 27 (tpC t a) (0, 0) _ (HG0.out).raw11 Try.underlying27 rfl (by kernel_rfl) ?_) | (with_reducible refine wpList_load_row (o := ⟨some 15, _, _, _, _, _⟩) rfl 29 _ rfl (w.heap.size + 1) rfl 29 (psA p) (0, 0) _ (HG1.out).raw11 Try.underlying29 rfl (by kernel_rfl) ?_))
  refine (opl_right t a p wa (HT.out wa HBWA.out) HLT.out HCJ.out).mono ?_
  rw [HRB.out]
  rintro e w1 ⟨rfl, hb⟩
  have HB := HBWA
  clear HBWA
  have HB := Lib.hid (HB.out.trans (hb.mono HB.out.size))
  have HG0 := Lib.hid (HG0.out.under hb HG0.out.lt)
  have HG1 := Lib.hid (HG1.out.under hb HG1.out.lt)
  clear hb
  cases b with
  | false =>
    go_wp2
    go_ret2
    obtain ⟨rfl, rfl⟩ := Prod.mk.inj (show (rN, rE) = (0, 1) from HOE.out.symm.trans (on_bad14 HRB.out))
    exact ⟨rfl, HB.out⟩
  | true =>
    have HRR := Lib.hid (right_iff.1 HRB.out)
    have HED := Lib.hid (check_routes HRR.out.1).1
    have HON := Lib.hid HRR.out.2
    clear HRR
    go_upto_region 3 with fail
    go_wp2_with (with_reducible refine wpList_load_row (o := ⟨some 19, _, _, _, _, _⟩) rfl 27 _ rfl (w.heap.size) rfl 27 (tpC t a) (0, 0) _ (HG0.out).raw11 Try.underlying27 rfl (by kernel_rfl) ?_)
    refine (otp_length t a path A n c w1 (HT.out w1 HB.out) (HP.out w1 HB.out) HNL.out HLT.out HED.out).mono ?_
    rintro e w2 ⟨rfl, hb⟩
    have HB := Lib.hid (HB.out.trans (hb.mono HB.out.size))
    have HG0 := Lib.hid (HG0.out.under hb HG0.out.lt)
    have HG1 := Lib.hid (HG1.out.under hb HG1.out.lt)
    clear hb
    obtain ⟨lN, hlN⟩ : ∃ x, lenN t path = x := ⟨_, rfl⟩
    obtain ⟨lE, hlE⟩ : ∃ x, lenE t path = x := ⟨_, rfl⟩
    have HLE := Lib.hid hlE
    simp only [hlN, hlE]
    clear hlN hlE
    by_cases z0 : lE = 0
    rotate_left
    · have x1 : (lE != 0) = true := by simp [z0]
      have x2 : (lE == 0) = false := by simp [z0]
      have HZ0 := Lib.hid z0
      go_wp2
      go_ret2
      obtain ⟨rfl, rfl⟩ := Prod.mk.inj (show (rN, rE) = (0, lE) from HOE.out.symm.trans (by rw [on_len14 HRB.out (by rw [HLE.out]; exact HZ0.out), HLE.out]))
      exact ⟨rfl, HB.out⟩
    subst z0
    have HLO := Lib.hid (len_ok HLE.out)
    have HN4 := Lib.hid (show n ≤ 40 from by have h1_ := HLO.out.2.1; have h2_ := HL.out; omega)
    obtain ⟨x0, hx0⟩ : ∃ x, path[0]? = some x := ⟨_, List.getElem?_eq_getElem (Nat.pos_of_ne_zero (fun e_ => HLO.out.1 (List.length_eq_zero_iff.1 e_)))⟩
    obtain ⟨bk, off, rfl, -, -⟩ := (HP.out w2 HB.out).step hx0
    clear hx0
    go_upto_region 6 with fail
    go_wp2_with (with_reducible refine wpList_load_row (o := ⟨some 28, _, _, _, _, _⟩) rfl 29 _ rfl (w.heap.size + 1) rfl 29 (psA p) (0, 0) _ (HG1.out).raw11 Try.underlying29 rfl (by kernel_rfl) ?_)
    refine (plstep_any p w2).mono ?_
    rintro e w3 ⟨rfl, hb⟩
    have HB := Lib.hid (HB.out.trans (hb.mono HB.out.size))
    have HG0 := Lib.hid (HG0.out.under hb HG0.out.lt)
    have HG1 := Lib.hid (HG1.out.under hb HG1.out.lt)
    clear hb
    go_wp2_with fail
    refine (oixs_any path (stepP p) (some ⟨bk, off, none⟩) n c w3 (HP.out w3 HB.out) HNL.out).mono ?_
    rintro e w4 ⟨rfl, hb⟩
    have HB := Lib.hid (HB.out.trans (hb.mono HB.out.size))
    have HG0 := Lib.hid (HG0.out.under hb HG0.out.lt)
    have HG1 := Lib.hid (HG1.out.under hb HG1.out.lt)
    clear hb
    obtain ⟨ix, hix⟩ : ∃ x, idxL (eqS (stepP p)) path = x := ⟨_, rfl⟩
    have HIX := Lib.hid hix
    simp only [hix]
    clear hix
    rcases idxA_spec (eqS (stepP p)) path 0 with ⟨he, hno⟩ | ⟨j, x, hx, hxp, hno, he⟩
    · have hie : ix = -1 := by rw [← HIX.out]; exact he
      have hlt : ix < 0 := by omega
      have HGO := Lib.hid (on_idx_none (t := t) hno 0)
      clear he hno hie
      go_wp2
      go_ret2
      obtain ⟨rfl, rfl⟩ := Prod.mk.inj (show (rN, rE) = (0, 4) from HOE.out.symm.trans (on_none14 HRB.out HLE.out HGO.out))
      exact ⟨rfl, HB.out⟩
    have hie : ix = j := by rw [← HIX.out]; refine he.trans ?_; rw [Nat.zero_add]
    have HGO := Lib.hid (on_idx_some (t := t) hx hxp hno)
    have hjn := (List.getElem?_eq_some_iff.1 hx).1
    rw [HL.out] at hjn
    have HJN := Lib.hid hjn
    clear HIX he hno hx hxp
    subst hie
    have hge : ¬ (j : Int) < 0 := by omega
    obtain ⟨d, hd⟩ : ∃ x, distP t p = x := ⟨_, rfl⟩
    have HD := Lib.hid hd
    have HDO := Lib.hid (show 0 ≤ d ∧ d ≤ 1000000 from by rw [← hd]; exact dist_ok HED.out HON.out)
    clear hd
    have hj0 : (0 : Int) ≤ j := by omega
    have hjc : (j : Int) ≤ c := by have := HCN.out; omega
    have hjc2 : j ≤ c := by have := HCN.out; omega
    go_upto_region 9 with fail
    clear hge
    go_wp2_with (first | (with_reducible refine wpList_load_row (o := ⟨some 33, _, _, _, _, _⟩) rfl 27 _ rfl (w.heap.size) rfl 27 (tpC t a) (0, 0) _ (HG0.out).raw11 Try.underlying27 rfl (by kernel_rfl) ?_) | (with_reducible refine wpList_load_row (o := ⟨some 34, _, _, _, _, _⟩) rfl 29 _ rfl (w.heap.size + 1) rfl 29 (psA p) (0, 0) _ (HG1.out).raw11 Try.underlying29 rfl (by kernel_rfl) ?_))
    refine (pldist_any t a p w4 (HT.out w4 HB.out) HON.out HED.out).mono ?_
    rw [HD.out]
    rintro e w5 ⟨rfl, hb⟩
    have HB := Lib.hid (HB.out.trans (hb.mono HB.out.size))
    have HG0 := Lib.hid (HG0.out.under hb HG0.out.lt)
    have HG1 := Lib.hid (HG1.out.under hb HG1.out.lt)
    clear hb
    go_wp2
    go_loopg [11, 40] n (fun kk v11 v40 wl => ∃ (i : Nat) (sv : Int), i ≤ j ∧ j - i ≤ kk ∧ v40 = .int .i64 i ∧ v11 = .int .i64 (d + sv) ∧ Hid (sumT t (path.take i) = sv) ∧ Hid (Below w5.heap.size w5 wl))
    case atStart => exact ⟨0, 0, by omega, by omega, rfl, by rw [Int.add_zero], Lib.hid (by simp [sumT]), Lib.hid (Below.refl _ _)⟩
    case round =>
      obtain ⟨i, sv, hi, hik, rfl, rfl, HSV, HBL⟩ := hrel
      have HBR := Lib.hid (HB.out.trans (HBL.out.mono HB.out.size))
      have HSB := Lib.hid (show 0 ≤ sv ∧ sv ≤ 40000000 from by have h1_ := sum_ok HED.out (path := path.take i) (fun s hs => HLO.out.2.2.1 s (List.mem_of_mem_take hs)); have h2_ := HSV.out; have h3_ : (path.take i).length ≤ 40 := (by rw [List.length_take]; have := HN4.out; omega); omega)
      by_cases hlt : i < j
      rotate_left
      · obtain rfl : i = j := by omega
        have x1 : ¬ (i : Int) < i := by omega
        clear hi hik hlt
        go_wp2
        go_ret2
        obtain ⟨rfl, rfl⟩ := Prod.mk.inj (show (rN, rE) = (d + sv, 0) from HOE.out.symm.trans (on_some14 HRB.out HLE.out (by rw [HGO.out, HD.out, HSV.out])))
        exact ⟨rfl, HBR.out⟩
      obtain ⟨x, hx⟩ : ∃ x, path[i]? = some x := ⟨_, List.getElem?_eq_getElem (by rw [HL.out]; have := HJN.out; omega)⟩
      have HX := Lib.hid hx
      obtain ⟨b_, o_, e_, e0, e1⟩ := (HP.out wr HBR.out).step hx
      injection e_ with e_
      injection e_ with e1_ e2_ _
      subst e1_ e2_
      have hxe := HLO.out.2.2.1 x (List.mem_of_getElem? hx)
      have HXE := Lib.hid hxe
      have hxe2 := hxe
      unfold edgeB at hxe2
      simp only [Bool.and_eq_true, decide_eq_true_eq] at hxe2
      obtain ⟨ke, hke⟩ : ∃ k : Nat, x.edge = k := ⟨x.edge.toNat, by omega⟩
      have hkl : ke < t.edges.length := by omega
      obtain ⟨be, oe, hae, ce⟩ := (HT.out wr HBR.out).e.edge hkl
      have HLA := Lib.hid (show lenAt t x = t.edges.getD ke 0 from by unfold lenAt; rw [hke]; rfl)
      obtain ⟨q, hq⟩ : ∃ q, t.edges.getD ke 0 = q := ⟨_, rfl⟩
      rw [hq] at HLA ce
      have HQ := Lib.hid (show 1 ≤ q ∧ q ≤ 1000000 from by rw [← HLA.out]; exact lenAt_ok HED.out hxe)
      have c0 : wr.cell? ⟨w.heap.size, 0, none⟩ = some (.slice (some ⟨be, oe, none⟩) t.edges.length a.ce) := by have h_ := (HG0.out.under HBL.out HG0.out.lt).cell 0; rw [← hae]; exact h_
      obtain ⟨ne, hne⟩ : ∃ m, t.edges.length = m := ⟨_, rfl⟩
      rw [hne] at c0 hkl
      rw [hke] at e0
      have HC0 := Lib.hid c0; have HCE := Lib.hid ce
      obtain ⟨xe, xr⟩ := x
      dsimp only at *
      have y0 : (0 : Int) ≤ i := by omega
      have y1 : (i : Int) < j := by omega
      have z0 : (0 : Int) ≤ ke := by omega
      have z1 : (ke : Int) < ne := by omega
      have hwr1 : IntKind.i64.wrap (d + sv + q) = d + sv + q := by have h1_ := HQ.out; have h2_ := HSB.out; have h3_ := HDO.out; rw [IntKind.wrap_i64]; omega
      clear hx hxe hxe2 hke hkl hae hq hne c0 ce
      obtain ⟨k1, hk1⟩ : ∃ k1, k1 = gk := ⟨_, rfl⟩
      subst hk1
      obtain ⟨wv, hwv⟩ : ∃ wv, wv = wr := ⟨_, rfl⟩
      subst hwv
      go_upto_region 13 with fail
      obtain ⟨wb, hwb⟩ : ∃ wb, wv.alloc (.cells #[.int .i64 (ke : Int), .bool xr] 45) = wb := ⟨_, rfl⟩
      rw [hwb]
      have hbb : Below wv.heap.size wv wb := by rw [← hwb]; exact (Below.refl _ _).alloc (Nat.le_refl _) _
      have g0 : wb.cell? ⟨wv.heap.size, 0, none⟩ = some (.int .i64 (ke : Int)) := by rw [← hwb]; exact (Has.made _ _ _).cell 0
      have c0 : wb.cell? ⟨w.heap.size, 0, none⟩ = some (.slice (some ⟨be, oe, none⟩) ne a.ce) := (hbb.cell (cell_block HC0.out)).trans HC0.out
      have ce : wb.cell? ⟨be, oe + ke, none⟩ = some (.int .i64 q) := (hbb.cell (cell_block HCE.out)).trans HCE.out
      have HBN := Lib.hid (HBL.out.trans (hbb.mono HBL.out.size))
      clear hwb hbb e0 e1 y0 y1
      have hn40 : j ≤ 40 := by have h1_ := HN4.out; have h2_ := HJN.out; omega
      go_wp2
      go_roundg (k1 - 1)
      case measure => omega
      case rel =>
        exact ⟨i + 1, sv + q, by omega, by omega, by go_num, by rw [Int.add_assoc], Lib.hid (by rw [sum_take14 HX.out, HSV.out, HLA.out]), HBN⟩

set_option maxRecDepth 100000 in
set_option maxHeartbeats 8000000 in
theorem opl_off (t : Tp3) (a : TpA) (path : List St3) (A : Option Addr) (n c : Nat) (m : Int) (w : World) (ht : TopR w t a) (hlt : lightT t = true) (hcj : t.joints.length ≤ a.cj) (hp : SlO stC 2 w A n c path) (hn : n ≤ 100) (_hc : n ≤ c) (_hr : (-9223372036854775808 ≤ m ∧ m ≤ 9223372036854775807)) :
    Calls Try.prog 20 #[.agg (tpC t a), .slice A n c, .int .i64 m] w fun e w' => e = .returned (.tuple #[.agg (psA (offE t path m).1), .int .i64 (offE t path m).2]) ∧ Below w.heap.size w w' := by
  obtain ⟨rP, hrP⟩ : ∃ r, (offE t path m).1 = r := ⟨_, rfl⟩
  obtain ⟨rE, hrE⟩ : ∃ r, (offE t path m).2 = r := ⟨_, rfl⟩
  have HOE := Lib.hid (show offE t path m = (rP, rE) from Prod.ext hrP hrE)
  rw [hrP, hrE]
  clear hrP hrE
  have HLT := Lib.hid hlt
  have HCJ := Lib.hid hcj
  have HNL := Lib.hid (show n ≤ 1048576 by omega)
  have HL := Lib.hid hp.1
  obtain ⟨cE, hcE⟩ : ∃ e, checkE t = e := ⟨_, rfl⟩
  have HCE := Lib.hid hcE
  clear hlt hcj hn hcE
  obtain ⟨wa, hwa⟩ : ∃ wa, (w.alloc (.cells (tpC t a) 27)).alloc (.cells #[.int .i64 0, .int .i64 0, .bool false] 29) = wa := ⟨_, rfl⟩
  have hbwa : Below w.heap.size w wa := by rw [← hwa]; exact ((Below.refl _ _).alloc (Nat.le_refl _) _).alloc (by simp) _
  have h0 : Has wa (w.heap.size) 27 (tpC t a) := by rw [← hwa]; exact ((Has.made _ _ _).beside _)
  have h1 : Has wa (w.heap.size + 1) 29 #[.int .i64 0, .int .i64 0, .bool false] := by rw [← hwa]; exact (has_at11 (by simp))
  have HWA := Lib.hid hwa; have HBWA := Lib.hid hbwa
  have HT := Lib.hid (fun W (hW : Below w.heap.size w W) => ht.under hW)
  have HP := Lib.hid (fun W (hW : Below w.heap.size w W) => hp.under hW)
  have HG0 := Lib.hid h0
  have HG1 := Lib.hid h1
  clear hwa hbwa h0 h1 ht hp
  go_enter Try.func20, Try.ntmps20
  go_upto_region 1 with fail
  rw [HWA.out]
  clear HWA
  go_wp2_with (with_reducible refine wpList_load_row (o := ⟨some 11, _, _, _, _, _⟩) rfl 27 _ rfl (w.heap.size) rfl 27 (tpC t a) (0, 0) _ (HG0.out).raw11 Try.underlying27 rfl (by kernel_rfl) ?_)
  refine (otp_check t a wa (HT.out wa HBWA.out) HLT.out HCJ.out).mono ?_
  rw [HCE.out]
  rintro e w1 ⟨rfl, hb⟩
  have HB := HBWA
  clear HBWA
  have HB := Lib.hid (HB.out.trans (hb.mono HB.out.size))
  have HG0 := Lib.hid (HG0.out.under hb HG0.out.lt)
  have HG1 := Lib.hid (HG1.out.under hb HG1.out.lt)
  clear hb
  by_cases z0 : cE = 0
  rotate_left
  · have x1 : (cE != 0) = true := by simp [z0]
    have x2 : (cE == 0) = false := by simp [z0]
    have HZ0 := Lib.hid z0
    have HR := Lib.hid (has_row11 HG1.out #[.int .i64 0, .int .i64 0, .bool false])
    have HBF := Lib.hid (below_row (g := w.heap.size + 1) HB.out (by omega) #[.int .i64 0, .int .i64 0, .bool false])
    go_wp2_with (with_reducible refine wpList_store_rowTo (o := ⟨none, _, _, _, _, _⟩) rfl 29 _ _ rfl rfl (w.heap.size + 1) #[.int .i64 0, .int .i64 0, .bool false] rfl rfl 29 _ (HG1.out).raw11 (by kernel_rfl) (by kernel_rfl) (by kernel_rfl) ?_)
    refine bodyPost_ret (results_row_tmp11 rfl _ _ (w.heap.size + 1) 29 _ _ rfl HR.out Try.underlying29 rfl (by kernel_rfl)) rfl ?_
    obtain ⟨rfl, rfl⟩ := Prod.mk.inj (show (rP, rE) = (zeroP, 1) from HOE.out.symm.trans (off_bad14 (by rw [HCE.out]; exact HZ0.out)))
    exact ⟨rfl, HBF.out⟩
  subst z0
  have HED := Lib.hid (check_routes HCE.out).1
  go_upto_region 3 with fail
  go_wp2_with (with_reducible refine wpList_load_row (o := ⟨some 16, _, _, _, _, _⟩) rfl 27 _ rfl (w.heap.size) rfl 27 (tpC t a) (0, 0) _ (HG0.out).raw11 Try.underlying27 rfl (by kernel_rfl) ?_)
  refine (otp_length t a path A n c w1 (HT.out w1 HB.out) (HP.out w1 HB.out) HNL.out HLT.out HED.out).mono ?_
  rintro e w2 ⟨rfl, hb⟩
  have HB := Lib.hid (HB.out.trans (hb.mono HB.out.size))
  have HG0 := Lib.hid (HG0.out.under hb HG0.out.lt)
  have HG1 := Lib.hid (HG1.out.under hb HG1.out.lt)
  clear hb
  obtain ⟨lN, hlN⟩ : ∃ x, lenN t path = x := ⟨_, rfl⟩
  obtain ⟨lE, hlE⟩ : ∃ x, lenE t path = x := ⟨_, rfl⟩
  have HLE := Lib.hid hlE
  have HLN := Lib.hid hlN
  simp only [hlN, hlE]
  clear hlN hlE
  by_cases z0 : lE = 0
  rotate_left
  · have x1 : (lE != 0) = true := by simp [z0]
    have x2 : (lE == 0) = false := by simp [z0]
    have HZ0 := Lib.hid z0
    have HR := Lib.hid (has_row11 HG1.out #[.int .i64 0, .int .i64 0, .bool false])
    have HBF := Lib.hid (below_row (g := w.heap.size + 1) HB.out (by omega) #[.int .i64 0, .int .i64 0, .bool false])
    go_wp2_with (with_reducible refine wpList_store_rowTo (o := ⟨none, _, _, _, _, _⟩) rfl 29 _ _ rfl rfl (w.heap.size + 1) #[.int .i64 0, .int .i64 0, .bool false] rfl rfl 29 _ (HG1.out).raw11 (by kernel_rfl) (by kernel_rfl) (by kernel_rfl) ?_)
    refine bodyPost_ret (results_row_tmp11 rfl _ _ (w.heap.size + 1) 29 _ _ rfl HR.out Try.underlying29 rfl (by kernel_rfl)) rfl ?_
    obtain ⟨rfl, rfl⟩ := Prod.mk.inj (show (rP, rE) = (zeroP, lE) from HOE.out.symm.trans (by rw [off_len14 HCE.out (by rw [HLE.out]; exact HZ0.out), HLE.out]))
    exact ⟨rfl, HBF.out⟩
  subst z0
  have HSN := Lib.hid (show sumT t path = lN from by have h_ := HLN.out; unfold lenN at h_; rw [HLE.out, if_pos rfl] at h_; exact h_)
  clear HLN
  obtain ⟨bn, hbn⟩ : ∃ b, withinB m 0 lN = b := ⟨_, rfl⟩
  have HBN := Lib.hid hbn
  clear hbn
  go_upto_region 6 with fail
  go_wp2_with fail
  refine (plwithin_any m 0 lN _).mono ?_
  rw [HBN.out]
  rintro e w3 ⟨rfl, rfl⟩
  cases bn with
  | false =>
    have HR := Lib.hid (has_row11 HG1.out #[.int .i64 0, .int .i64 0, .bool false])
    have HBF := Lib.hid (below_row (g := w.heap.size + 1) HB.out (by omega) #[.int .i64 0, .int .i64 0, .bool false])
    go_wp2_with (with_reducible refine wpList_store_rowTo (o := ⟨none, _, _, _, _, _⟩) rfl 29 _ _ rfl rfl (w.heap.size + 1) #[.int .i64 0, .int .i64 0, .bool false] rfl rfl 29 _ (HG1.out).raw11 (by kernel_rfl) (by kernel_rfl) (by kernel_rfl) ?_)
    refine bodyPost_ret (results_row_tmp11 rfl _ _ (w.heap.size + 1) 29 _ _ rfl HR.out Try.underlying29 rfl (by kernel_rfl)) rfl ?_
    obtain ⟨rfl, rfl⟩ := Prod.mk.inj (show (rP, rE) = (zeroP, 1) from HOE.out.symm.trans (off_out14 HCE.out HLE.out (fun h_ => by have h2_ := HBN.out; unfold withinB at h2_; rw [HSN.out] at h_; simp only [Bool.and_eq_false_iff, decide_eq_false_iff_not] at h2_; omega)))
    exact ⟨rfl, HBF.out⟩
  | true =>
    have HMM := Lib.hid (show 0 ≤ m ∧ m ≤ sumT t path from by have h2_ := HBN.out; unfold withinB at h2_; simp only [Bool.and_eq_true, decide_eq_true_eq] at h2_; rw [HSN.out]; exact h2_)
    have HOI := Lib.hid (HOE.out.symm.trans (off_in14 HCE.out HLE.out HMM.out))
    have HLO := Lib.hid (len_ok HLE.out)
    have HN4 := Lib.hid (show n ≤ 40 from by have h1_ := HLO.out.2.1; have h2_ := HL.out; omega)
    clear HOE HCE HLE HBN
    obtain ⟨x0, hx0⟩ : ∃ x, path[0]? = some x := ⟨_, List.getElem?_eq_getElem (Nat.pos_of_ne_zero (fun e_ => HLO.out.1 (List.length_eq_zero_iff.1 e_)))⟩
    have HN1 := Lib.hid (show 1 ≤ n from by have h_ := (List.getElem?_eq_some_iff.1 hx0).1; rw [HL.out] at h_; omega)
    obtain ⟨bk, off, rfl, -, -⟩ := (HP.out w3 HB.out).step hx0
    clear hx0
    obtain ⟨wb, hwb⟩ : ∃ wb, wb = w3 := ⟨_, rfl⟩
    subst hwb
    go_upto_region 8 with fail
    go_wp2
    go_loopg [2, 10] n (fun kk v2 v10 wl => ∃ (i q : Nat) (mm : Int), i < n ∧ n - i ≤ kk ∧ v10 = .int .i64 i ∧ v2 = .int .i64 mm ∧ Hid (0 ≤ mm ∧ mm ≤ sumT t (path.drop i)) ∧ Hid (offGo t path m = offGo t (path.drop i) mm) ∧ wl = wb.drewN q)
    case atStart => exact ⟨0, 0, m, by have := HN1.out; omega, by omega, rfl, rfl, Lib.hid ⟨HMM.out.1, HMM.out.2⟩, Lib.hid rfl, rfl⟩
    case round =>
      obtain ⟨i, nq, mm, hi, hik, rfl, rfl, HMI, HGO, hwr⟩ := hrel
      have HBR := Lib.hid (show Below w.heap.size w wr from by rw [hwr]; exact below_draws HB.out nq)
      have HG0r := Lib.hid (show Has wr _ _ _ from by rw [hwr]; exact HG0.out.draws nq)
      have HG1r := Lib.hid (show Has wr _ _ _ from by rw [hwr]; exact HG1.out.draws nq)
      have HWR := Lib.hid hwr
      clear hwr
      obtain ⟨x, hx⟩ : ∃ x, path[i]? = some x := ⟨_, List.getElem?_eq_getElem (by rw [HL.out]; omega)⟩
      have HX := Lib.hid hx
      obtain ⟨b_, o_, e_, e0, e1⟩ := (HP.out wr HBR.out).step hx
      injection e_ with e_
      injection e_ with e1_ e2_ _
      subst e1_ e2_
      have hxe := HLO.out.2.2.1 x (List.mem_of_getElem? hx)
      have HXE := Lib.hid hxe
      have hxe2 := hxe
      unfold edgeB at hxe2
      simp only [Bool.and_eq_true, decide_eq_true_eq] at hxe2
      obtain ⟨ke, hke⟩ : ∃ k : Nat, x.edge = k := ⟨x.edge.toNat, by omega⟩
      have hkl : ke < t.edges.length := by omega
      obtain ⟨be, oe, hae, ce⟩ := (HT.out wr HBR.out).e.edge hkl
      have HLA := Lib.hid (show lenAt t x = t.edges.getD ke 0 from by unfold lenAt; rw [hke]; rfl)
      obtain ⟨q, hq⟩ : ∃ q, t.edges.getD ke 0 = q := ⟨_, rfl⟩
      rw [hq] at HLA ce
      have HQ := Lib.hid (show 1 ≤ q ∧ q ≤ 1000000 from by rw [← HLA.out]; exact lenAt_ok HED.out hxe)
      have c0 : wr.cell? ⟨w.heap.size, 0, none⟩ = some (.slice (some ⟨be, oe, none⟩) t.edges.length a.ce) := by have h_ := HG0r.out.cell 0; rw [← hae]; exact h_
      obtain ⟨ne, hne⟩ : ∃ m, t.edges.length = m := ⟨_, rfl⟩
      rw [hne] at c0 hkl
      rw [hke] at e0
      have HKE := Lib.hid hke
      have y0 : (0 : Int) ≤ i := by omega
      have y1 : (i : Int) < n := by omega
      have z0 : (0 : Int) ≤ ke := by omega
      have z1 : (ke : Int) < ne := by omega
      have HSD := Lib.hid (show sumT t (path.drop i) = q + sumT t (path.drop (i + 1)) from by rw [drop_cons14 HX.out, ← HLA.out]; rfl)
      clear hx hxe hxe2 hke hkl hae hq hne
      obtain ⟨k1, hk1⟩ : ∃ k1, k1 = gk := ⟨_, rfl⟩
      subst hk1
      obtain ⟨wv, hwv⟩ : ∃ wv, wv = wr := ⟨_, rfl⟩
      subst hwv
      by_cases hmq : q < mm
      rotate_left
      · have g1 : decide (q < mm) = false := decide_eq_false hmq
        have HMQ := Lib.hid (show mm ≤ q by omega)
        go_upto_region 9 with fail
        go_quiet (fail)
        go_upto_region 12 with fail
        clear c0 e0 e1 ce z0 z1 y0 y1 g1 hmq
        have HXS := Lib.hid (fun W (hW : Below w.heap.size w W) => (show W.cell? ⟨bk, off + i * 2, none⟩ = some (.int .i64 x.edge) ∧ W.cell? ⟨bk, off + i * 2 + 1, none⟩ = some (.bool x.rev) from by obtain ⟨b_, o_, e_, h1_, h2_⟩ := (HP.out W hW).step HX.out; injection e_ with e_; injection e_ with e1_ e2_ _; subst e1_ e2_; exact ⟨h1_, h2_⟩))
        have y0 : (0 : Int) ≤ i := by omega
        have y1 : (i : Int) < n := by omega
        refine wp_region_held_drew (S := (fun W_ => Has W_ (w.heap.size) 27 (tpC t a) ∧ (∃ o_ : Array Value, Has W_ (w.heap.size + 1) 29 o_ ∧ o_.size = 3) ∧ Below w.heap.size w W_)) (by kernel_rfl) ?_ (fun hHeld => ?_)
        · exact ⟨(HG0r.out.draws _).draw, ⟨_, (HG1r.out.draws _).draw, by kernel_rfl⟩, below_dr11 (below_draws HBR.out _)⟩
        refine wpAnyH_take (i := 0) (oi := ⟨some 56, _, _, _, _, _⟩) (v := .agg (tpC t a)) rfl (by kernel_rfl) (by kernel_rfl) (by kernel_rfl) (fun _ _ _ h => h) (yields_load_row11 27 _ rfl (w.heap.size) rfl 27 (tpC t a) _ (fun _ ⟨h_, _, _⟩ => h_) Try.underlying27 rfl (by kernel_rfl) (by rfl)) (by assumption) ?_
        simp only [Act.put, List.setIfInBounds_toArray, List.set_cons_zero, List.set_cons_succ]
        refine wpAnyH_take (i := 1) (oi := ⟨some 57, _, _, _, _, _⟩) (v := ?_) rfl (by kernel_rfl) (by kernel_rfl) (by kernel_rfl) (fun _ _ _ h => h) (Or.inl ⟨by rfl, ?_⟩) (by assumption) ?_
        rotate_left
        · intro w_ hSw; (try dsimp only at hSw); go_simp <;> with_reducible rfl
        simp only [Act.put, List.setIfInBounds_toArray, List.set_cons_zero, List.set_cons_succ]
        refine wpAnyH_take (i := 2) (oi := ⟨some 58, _, _, _, _, _⟩) (v := ?_) rfl (by kernel_rfl) (by kernel_rfl) (by kernel_rfl) (fun _ _ _ h => h) (Or.inl ⟨by rfl, ?_⟩) (by assumption) ?_
        rotate_left
        · intro w_ hSw; (try dsimp only at hSw); go_simp <;> with_reducible rfl
        simp only [Act.put, List.setIfInBounds_toArray, List.set_cons_zero, List.set_cons_succ]
        refine wpAnyH_take (i := 3) (oi := ⟨some 59, _, _, _, _, _⟩) (v := ?_) rfl (by kernel_rfl) (by kernel_rfl) (by kernel_rfl) (fun _ _ _ h => h) (Or.inl ⟨by rfl, ?_⟩) (by assumption) ?_
        rotate_left
        · intro w_ hSw; (try dsimp only at hSw); go_simp <;> with_reducible rfl
        simp only [Act.put, List.setIfInBounds_toArray, List.set_cons_zero, List.set_cons_succ]
        refine wpAnyH_take (i := 4) (oi := ⟨some 60, _, _, _, _, _⟩) (v := ?_) rfl (by kernel_rfl) (by kernel_rfl) (by kernel_rfl) (fun _ _ _ h => h) (Or.inl ⟨by rfl, ?_⟩) (by assumption) ?_
        rotate_left
        · intro w_ hSw; (try dsimp only at hSw); obtain ⟨cx0_, cx1_⟩ := HXS.out w_ hSw.2.2; go_simp <;> with_reducible rfl
        simp only [Act.put, List.setIfInBounds_toArray, List.set_cons_zero, List.set_cons_succ]
        refine wpAnyH_take (i := 5) (oi := ⟨some 61, _, _, _, _, _⟩) (v := ?_) rfl (by kernel_rfl) (by kernel_rfl) (by kernel_rfl) (fun _ _ _ h => h) (Or.inl ⟨by rfl, ?_⟩) (by assumption) ?_
        rotate_left
        · intro w_ hSw; (try dsimp only at hSw); go_simp <;> with_reducible rfl
        simp only [Act.put, List.setIfInBounds_toArray, List.set_cons_zero, List.set_cons_succ]
        refine wpAnyH_ready (rs := [6]) (by kernel_rfl) (by simp) ?_
        refine AllReadyH.cons (o := ⟨some 62, _, _, _, _, _⟩) rfl (fun K hK => ?_) ?_
        · go_simp
          obtain ⟨s0, s1, s2⟩ := hHeld
          refine (plpos_any t a x mm _ (HT.out _ s2) HXE.out HED.out HMI.out.1 (by rw [← lenAt_edge, HLA.out]; exact HMQ.out)).mono ?_
          rw [pos_moved]
          rintro e_ vs ⟨rfl, hbs⟩
          go_wp2_with fail
          refine hK.out _ _ ?_ (fun hHeld => ?_)
          · exact ⟨s0.under hbs s0.lt, (let ⟨o_, h_, e_⟩ := s1; ⟨o_, h_.under hbs h_.lt, e_⟩), s2.trans (hbs.mono s2.size)⟩
          clear hK K s0 s1 s2
          try simp only [Act.put, List.setIfInBounds_toArray, List.set_cons_zero, List.set_cons_succ]
          refine wpAnyH_ready (rs := [7]) (by kernel_rfl) (by simp) ?_
          refine AllReadyH.cons (o := ⟨none, _, _, _, _, _⟩) rfl (fun K hK => ?_) ?_
          · rw [if_pos (by rfl)]
            obtain ⟨s0, s1, s2⟩ := hHeld
            obtain ⟨o_, h_, e_⟩ := s1
            refine wp_store_row 29 _ _ rfl (w.heap.size + 1) (psA (movedP (beginP t x) mm)) (by rfl) (by rfl) 29 o_ h_.raw11 (by kernel_rfl) e_ (by kernel_rfl) ?_
            refine hK.out _ _ ?_ (fun hHeld => ?_)
            · exact ⟨has_rowo11 s0 (by omega) _, ⟨_, has_row11 h_ (psA (movedP (beginP t x) mm)), by kernel_rfl⟩, below_row s2 (by omega) _⟩
            refine wpAnyH_more11 (T := (fun W_ => Has W_ (w.heap.size) 27 (tpC t a) ∧ Has W_ (w.heap.size + 1) 29 (psA (movedP (beginP t x) mm)) ∧ Below w.heap.size w W_)) (fun _ ⟨s0, s1, s2⟩ => ⟨s0, ⟨_, s1, by kernel_rfl⟩, s2⟩) ?_
            have hHeld2 : (fun W_ => Has W_ (w.heap.size) 27 (tpC t a) ∧ Has W_ (w.heap.size + 1) 29 (psA (movedP (beginP t x) mm)) ∧ Below w.heap.size w W_) _ := ⟨has_rowo11 s0 (by omega) _, has_row11 h_ (psA (movedP (beginP t x) mm)), below_row s2 (by omega) _⟩
            clear hHeld
            have hHeld := hHeld2
            clear hHeld2 hK K h_ e_ s0 s2
            try simp only [Act.put]
            refine wpAnyH_take (i := 8) (oi := ⟨some 7, _, _, _, _, _⟩) (v := ?_) rfl (by kernel_rfl) (by kernel_rfl) (by kernel_rfl) (fun _ _ _ h => h) (Or.inl ⟨by rfl, ?_⟩) (by assumption) ?_
            rotate_left
            · intro w_ hSw; (try dsimp only at hSw); go_simp <;> with_reducible rfl
            simp only [Act.put, List.setIfInBounds_toArray, List.set_cons_zero, List.set_cons_succ]
            refine wpAnyH_done (by kernel_rfl) ?_ _
            have HR := Lib.hid hHeld.2.1
            have HBF := Lib.hid hHeld.2.2
            clear hHeld
            go_wp2
            refine bodyPost_ret (results_row_tmp11 rfl _ _ (w.heap.size + 1) 29 _ _ rfl HR.out Try.underlying29 rfl (by kernel_rfl)) rfl ?_
            obtain ⟨rfl, rfl⟩ := Prod.mk.inj (show (rP, rE) = (movedP (beginP t x) mm, 0) from by rw [HOI.out, HGO.out, drop_cons14 HX.out, offGo, if_pos (by rw [HLA.out]; exact HMQ.out)])
            exact ⟨rfl, HBF.out⟩
          exact AllReadyH.nil
        exact AllReadyH.nil
      have g1 : decide (q < mm) = true := decide_eq_true hmq
      have HMQ := Lib.hid hmq
      have hsb : mm ≤ 40000000 := by have h0_ := HMI.out; have h1_ := (sum_ok HED.out (path := path.drop i) (fun s hs => HLO.out.2.2.1 s (List.mem_of_mem_drop hs))).2; have h3_ : (path.drop i).length ≤ 40 := (by rw [List.length_drop]; have := HLO.out.2.1; omega); omega
      have hwr1 : IntKind.i64.wrap (mm - q) = mm - q := by have h1_ := HQ.out; have h3_ := HMI.out.1; rw [IntKind.wrap_i64]; omega
      have HIN := Lib.hid (show i + 1 < n from Nat.lt_of_not_le fun h_ => by have h1_ := HSD.out; have h5_ : path.drop (i + 1) = [] := List.drop_of_length_le (by rw [HL.out]; exact h_); rw [h5_] at h1_; have h2_ : sumT t [] = 0 := rfl; have h3_ := HMI.out; have h4_ := HMQ.out; omega)
      clear hsb hmq
      have hn40 := HN4.out
      go_upto_region 9 with fail
      go_quiet (fail)
      go_upto_region 10 with fail
      go_quiet (fail)
      go_wp2
      go_roundg (k1 - 1)
      case measure => omega
      case rel =>
        refine ⟨i + 1, _, mm - q, HIN.out, by have := HIN.out; omega, by go_num, rfl, Lib.hid ⟨by have := HMQ.out; omega, by have h1_ := HSD.out; have h2_ := HMI.out.2; omega⟩, Lib.hid ?_, by first | (rw [HWR.out]; rfl) | (rw [HWR.out, World.drewN_drewN]) | (rw [HWR.out]; simp only [World.drewN_drewN]; rfl)⟩
        rw [HGO.out, drop_cons14 HX.out, offGo, if_neg (by rw [HLA.out]; have := HMQ.out; omega), HLA.out]

end Go.Proofs.Ytfchmjldhefmkaa
