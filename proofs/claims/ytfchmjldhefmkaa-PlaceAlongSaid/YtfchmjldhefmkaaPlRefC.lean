/-
  linesideref14, by contract: Walk.
-/
import Derived.Test.YtfchmjldhefmkaaPlRefA

import Derived.Test.YtfchmjldhefmkaaPlRefB

import Derived.BigQuiet

import Derived.IntWalk

namespace Go.Proofs.Ytfchmjldhefmkaa

open Go.RowKit

open Go.Great

theorem walkE_bad {t : Tp3} {p : Ps3} {n : Int} (h : ¬ (rightP t p = true ∧ 0 ≤ n ∧ n ≤ 1099511627776)) : walkE t p n = (zeroP, 1) := if_neg h
theorem walkE_ok {t : Tp3} {p : Ps3} {n : Int} (h : rightP t p = true ∧ 0 ≤ n ∧ n ≤ 1099511627776) : walkE t p n = walkF t 40 p n := if_pos h
theorem psA_zero : psA zeroP = #[.int .i64 0, .int .i64 0, .bool false] := rfl
theorem walk_next14 {t : Tp3} {k : Nat} {p : Ps3} {n : Int} {s : St3} (h : ¬ n ≤ aheadP t p) (h1 : afterL t (stepP p) = [s]) (hk : 1 ≤ k) : walkF t k p n = walkF t (k - 1) (beginP t s) (n - aheadP t p) := by
  obtain ⟨j, rfl⟩ : ∃ j, k = j + 1 := ⟨k - 1, by omega⟩
  exact walk_on h h1

set_option maxRecDepth 100000 in
set_option maxHeartbeats 8000000 in
theorem rwalk_any (t : Tp3) (a : TpA) (p : Ps3) (n : Int) (w : World) (ht : TopR w t a) (hlt : lightT t = true) (hcj : t.joints.length ≤ a.cj) :
    Calls Try.prog 11 #[.agg (tpC t a), .agg (psA p), .int .i64 n] w fun e w' => e = .returned (.tuple #[.agg (psA (walkE t p n).1), .int .i64 (walkE t p n).2]) ∧ Below w.heap.size w w' := by
  obtain ⟨rP, hrP⟩ : ∃ r, (walkE t p n).1 = r := ⟨_, rfl⟩
  obtain ⟨rE, hrE⟩ : ∃ r, (walkE t p n).2 = r := ⟨_, rfl⟩
  have HWE := Lib.hid (show walkE t p n = (rP, rE) from Prod.ext hrP hrE)
  rw [hrP, hrE]
  clear hrP hrE
  have HLT := Lib.hid hlt
  have HNN := Lib.hid (light_nums13 hlt)
  have HCJ := Lib.hid hcj
  clear hlt hcj
  obtain ⟨wa, hwa⟩ : ∃ wa, ((w.alloc (.cells (tpC t a) 27)).alloc (.cells (psA p) 29)).alloc (.cells #[.int .i64 0, .int .i64 0, .bool false] 29) = wa := ⟨_, rfl⟩
  have hbwa : Below w.heap.size w wa := by rw [← hwa]; exact (((Below.refl _ _).alloc (Nat.le_refl _) _).alloc (by simp) _).alloc (by simp; omega) _
  have h0 : Has wa (w.heap.size) 27 (tpC t a) := by rw [← hwa]; exact (((Has.made _ _ _).beside _).beside _)
  have h1 : Has wa (w.heap.size + 1) 29 (psA p) := by rw [← hwa]; exact ((has_at11 (by simp)).beside _)
  have h2 : Has wa (w.heap.size + 1 + 1) 29 #[.int .i64 0, .int .i64 0, .bool false] := by rw [← hwa]; exact (has_at11 (by simp))
  have HWA := Lib.hid hwa; have HBWA := Lib.hid hbwa
  have HT := Lib.hid (fun W (hW : Below w.heap.size w W) => ht.under hW)
  have HG0 := Lib.hid h0
  have HG1 := Lib.hid h1
  have HG2 := Lib.hid h2
  obtain ⟨b, hb⟩ : ∃ b, rightP t p = b := ⟨_, rfl⟩
  have HRB := Lib.hid hb
  clear hwa hbwa h0 h1 h2 hb ht
  go_enter Try.func11, Try.ntmps11
  go_upto_region 1 with fail
  rw [HWA.out]
  clear HWA
  go_wp2_with (first | (with_reducible refine wpList_load_row (o := ⟨some 11, _, _, _, _, _⟩) rfl 27 _ rfl (w.heap.size) rfl 27 (tpC t a) (0, 0) _ (HG0.out).raw11 Try.underlying27 rfl (by kernel_rfl) ?_) | (with_reducible refine wpList_load_row (o := ⟨some 12, _, _, _, _, _⟩) rfl 29 _ rfl (w.heap.size + 1) rfl 29 (psA p) (0, 0) _ (HG1.out).raw11 Try.underlying29 rfl (by kernel_rfl) ?_))
  refine (rright_any t a p wa (HT.out wa HBWA.out) HLT.out HCJ.out).mono ?_
  rw [HRB.out]
  rintro e w1 ⟨rfl, hb⟩
  have HB := HBWA
  clear HBWA
  have HB := Lib.hid (HB.out.trans (hb.mono HB.out.size))
  have HG0 := Lib.hid (HG0.out.under hb HG0.out.lt)
  have HG1 := Lib.hid (HG1.out.under hb HG1.out.lt)
  have HG2 := Lib.hid (HG2.out.under hb HG2.out.lt)
  clear hb
  cases b with
  | false =>
    have HR := Lib.hid (has_row11 HG2.out #[.int .i64 0, .int .i64 0, .bool false])
    have HBF := Lib.hid (below_row (g := w.heap.size + 1 + 1) HB.out (by omega) #[.int .i64 0, .int .i64 0, .bool false])
    go_wp2_with (with_reducible refine wpList_store_rowTo (o := ⟨none, _, _, _, _, _⟩) rfl 29 _ _ rfl rfl (w.heap.size + 1 + 1) #[.int .i64 0, .int .i64 0, .bool false] rfl rfl 29 _ (HG2.out).raw11 (by kernel_rfl) (by kernel_rfl) (by kernel_rfl) ?_)
    refine bodyPost_ret (results_row_tmp11 rfl _ _ (w.heap.size + 1 + 1) 29 _ _ rfl HR.out Try.underlying29 rfl (by kernel_rfl)) rfl ?_
    obtain ⟨rfl, rfl⟩ := Prod.mk.inj (show (rP, rE) = (zeroP, 1) from HWE.out.symm.trans (walkE_bad (fun h_ => by have h2_ := h_.1; rw [HRB.out] at h2_; cases h2_)))
    exact ⟨rfl, HBF.out⟩
  | true =>
    by_cases z1 : n < 0
    · skip
      have HR := Lib.hid (has_row11 HG2.out #[.int .i64 0, .int .i64 0, .bool false])
      have HBF := Lib.hid (below_row (g := w.heap.size + 1 + 1) HB.out (by omega) #[.int .i64 0, .int .i64 0, .bool false])
      go_wp2_with (with_reducible refine wpList_store_rowTo (o := ⟨none, _, _, _, _, _⟩) rfl 29 _ _ rfl rfl (w.heap.size + 1 + 1) #[.int .i64 0, .int .i64 0, .bool false] rfl rfl 29 _ (HG2.out).raw11 (by kernel_rfl) (by kernel_rfl) (by kernel_rfl) ?_)
      refine bodyPost_ret (results_row_tmp11 rfl _ _ (w.heap.size + 1 + 1) 29 _ _ rfl HR.out Try.underlying29 rfl (by kernel_rfl)) rfl ?_
      obtain ⟨rfl, rfl⟩ := Prod.mk.inj (show (rP, rE) = (zeroP, 1) from HWE.out.symm.trans (walkE_bad (fun h_ => by have := h_.2.1; omega)))
      exact ⟨rfl, HBF.out⟩
    by_cases z2 : 1099511627776 < n
    · skip
      have HR := Lib.hid (has_row11 HG2.out #[.int .i64 0, .int .i64 0, .bool false])
      have HBF := Lib.hid (below_row (g := w.heap.size + 1 + 1) HB.out (by omega) #[.int .i64 0, .int .i64 0, .bool false])
      go_wp2_with (with_reducible refine wpList_store_rowTo (o := ⟨none, _, _, _, _, _⟩) rfl 29 _ _ rfl rfl (w.heap.size + 1 + 1) #[.int .i64 0, .int .i64 0, .bool false] rfl rfl 29 _ (HG2.out).raw11 (by kernel_rfl) (by kernel_rfl) (by kernel_rfl) ?_)
      refine bodyPost_ret (results_row_tmp11 rfl _ _ (w.heap.size + 1 + 1) 29 _ _ rfl HR.out Try.underlying29 rfl (by kernel_rfl)) rfl ?_
      obtain ⟨rfl, rfl⟩ := Prod.mk.inj (show (rP, rE) = (zeroP, 1) from HWE.out.symm.trans (walkE_bad (fun h_ => by have := h_.2.2; omega)))
      exact ⟨rfl, HBF.out⟩
    have HWF := Lib.hid ((walkE_ok ⟨HRB.out, by omega, by omega⟩).symm.trans HWE.out)
    have HRR := Lib.hid (right_iff.1 HRB.out)
    have HED := Lib.hid (check_routes HRR.out.1).1
    have HN := Lib.hid (show 0 ≤ n ∧ n ≤ 1099511627776 by omega)
    have HON := Lib.hid HRR.out.2
    clear HWE HRB HRR
    go_upto_region 4 with fail
    clear z1 z2
    skip
    go_wp2
    go_loopg [2, 9] 41 (fun kk v2 v9 wl => ∃ (l : Nat) (m : Int) (q : Ps3), l ≤ 40 ∧ 41 - l ≤ kk ∧ v9 = .int .i64 l ∧ v2 = .int .i64 m ∧ Hid (0 ≤ m ∧ m ≤ 1099511627776) ∧ Hid (onB t q = true) ∧ Hid (walkF t (40 - l) q m = (rP, rE)) ∧ Hid (Below w.heap.size w wl) ∧ Hid (Has wl (w.heap.size) 27 (tpC t a)) ∧ Hid (Has wl (w.heap.size + 1) 29 (psA q)) ∧ Hid (Has wl (w.heap.size + 1 + 1) 29 #[.int .i64 0, .int .i64 0, .bool false]))
    case atStart => exact ⟨0, n, p, by omega, by omega, rfl, rfl, HN, HON, HWF, HB, HG0, HG1, HG2⟩
    case round =>
      clear HWF HN HON HB HG0 HG1 HG2
      obtain ⟨l, m, q, hl, hlk, rfl, rfl, HM, HON, HWF, HB, HG0, HG1, HG2⟩ := hrel
      obtain ⟨ah, hah⟩ : ∃ x, aheadP t q = x := ⟨_, rfl⟩
      have HAH := Lib.hid hah
      have HAB := Lib.hid (show 0 ≤ ah ∧ ah ≤ 1000000 from by rw [← hah]; exact ahead_ok HED.out HON.out)
      clear hah
      go_wp2_with (first | (with_reducible refine wpList_load_row (o := ⟨some 26, _, _, _, _, _⟩) rfl 27 _ rfl (w.heap.size) rfl 27 (tpC t a) (0, 0) _ (HG0.out).raw11 Try.underlying27 rfl (by kernel_rfl) ?_) | (with_reducible refine wpList_load_row (o := ⟨some 27, _, _, _, _, _⟩) rfl 29 _ rfl (w.heap.size + 1) rfl 29 (psA q) (0, 0) _ (HG1.out).raw11 Try.underlying29 rfl (by kernel_rfl) ?_))
      refine (rahead_any t a q wr (HT.out wr HB.out) HON.out HED.out).mono ?_
      rw [HAH.out]
      rintro e w2 ⟨rfl, hb⟩
      have HB := Lib.hid (HB.out.trans (hb.mono HB.out.size))
      have HG0 := Lib.hid (HG0.out.under hb HG0.out.lt)
      have HG1 := Lib.hid (HG1.out.under hb HG1.out.lt)
      have HG2 := Lib.hid (HG2.out.under hb HG2.out.lt)
      clear hb
      by_cases hle : m ≤ ah
      · have x1 : ¬ ah < m := by omega
        have HQB := Lib.hid (show 0 ≤ q.at_ ∧ q.at_ ≤ 1000000 from by have h_ := on_iff.1 HON.out; have h2_ := lenAt_ok HED.out (s := stepP q) h_.1; rw [lenAt_edge] at h2_; exact ⟨h_.2.1, Int.le_trans h_.2.2 h2_.2⟩)
        have HLE := Lib.hid hle
        clear hle
        go_upto_region 16 with fail
        clear x1 hl hlk
        go_wp2_with (with_reducible refine wpList_load_row (o := ⟨some 60, _, _, _, _, _⟩) rfl 29 _ rfl (w.heap.size + 1) rfl 29 (psA q) (0, 0) _ (HG1.out).raw11 Try.underlying29 rfl (by kernel_rfl) ?_)
        refine (rmoved_any q m w2 HM.out.1 (by have h1_ := HLE.out; have h2_ := HAB.out; omega) HQB.out.1 HQB.out.2).mono ?_
        rintro e w3 ⟨rfl, hb⟩
        have HB := Lib.hid (HB.out.trans (hb.mono HB.out.size))
        have HG0 := Lib.hid (HG0.out.under hb HG0.out.lt)
        have HG1 := Lib.hid (HG1.out.under hb HG1.out.lt)
        have HG2 := Lib.hid (HG2.out.under hb HG2.out.lt)
        clear hb
        have HR := Lib.hid (has_row11 HG2.out (psA (movedP q m)))
        have HBF := Lib.hid (below_row (g := w.heap.size + 1 + 1) HB.out (by omega) (psA (movedP q m)))
        go_wp2_with (with_reducible refine wpList_store_rowTo (o := ⟨none, _, _, _, _, _⟩) rfl 29 _ _ rfl rfl (w.heap.size + 1 + 1) (psA (movedP q m)) rfl rfl 29 _ (HG2.out).raw11 (by kernel_rfl) (by kernel_rfl) (by kernel_rfl) ?_)
        refine bodyPost_ret (results_row_tmp11 rfl _ _ (w.heap.size + 1 + 1) 29 _ _ rfl HR.out Try.underlying29 rfl (by kernel_rfl)) rfl ?_
        obtain ⟨rfl, rfl⟩ := Prod.mk.inj (HWF.out.symm.trans (walk_here (by rw [HAH.out]; exact HLE.out)))
        exact ⟨rfl, HBF.out⟩
      have x1 : ah < m := by omega
      have HLE := Lib.hid (show aheadP t q < m from by rw [HAH.out]; omega)
      clear hle
      go_upto_region 7 with fail
      clear x1
      have d0 : w2.cell? ⟨w.heap.size + 1, 0, none⟩ = some (.int .i64 q.edge) := HG1.out.cell 0
      have d2 : w2.cell? ⟨w.heap.size + 1, 2, none⟩ = some (.bool q.rev) := HG1.out.cell 2
      go_wp2_with (with_reducible refine wpList_load_row (o := ⟨some 32, _, _, _, _, _⟩) rfl 27 _ rfl (w.heap.size) rfl 27 (tpC t a) (0, 0) _ (HG0.out).raw11 Try.underlying27 rfl (by kernel_rfl) ?_)
      refine (rafter_any t a (stepP q) w2 (HT.out w2 HB.out) HNN.out.1 HNN.out.2.1).mono ?_
      rintro e w3 ⟨A2, c2, rfl, hs, hlo, hb⟩
      have HLO := Lib.hid (show ∀ ad, A2 = some ad → w.heap.size + 1 < ad.block from fun ad h_ => Nat.lt_of_lt_of_le HG1.out.lt (hlo ad h_))
      have HSL := Lib.hid hs
      clear d0 d2 hs hlo
      have HB := Lib.hid (HB.out.trans (hb.mono HB.out.size))
      have HG0 := Lib.hid (HG0.out.under hb HG0.out.lt)
      have HG1 := Lib.hid (HG1.out.under hb HG1.out.lt)
      have HG2 := Lib.hid (HG2.out.under hb HG2.out.lt)
      clear hb
      obtain ⟨k, hk⟩ : ∃ k, (afterL t (stepP q)).length = k := ⟨_, rfl⟩
      have HK := Lib.hid hk
      rw [hk] at HSL
      simp only [hk]
      clear hk
      by_cases hk0 : k = 0
      · have x1 : (k : Int) = 0 := by omega
        have HK0 := Lib.hid hk0
        clear hk0
        have HR := Lib.hid (has_row11 HG2.out #[.int .i64 0, .int .i64 0, .bool false])
        have HBF := Lib.hid (below_row (g := w.heap.size + 1 + 1) HB.out (by omega) #[.int .i64 0, .int .i64 0, .bool false])
        go_wp2_with (with_reducible refine wpList_store_rowTo (o := ⟨none, _, _, _, _, _⟩) rfl 29 _ _ rfl rfl (w.heap.size + 1 + 1) #[.int .i64 0, .int .i64 0, .bool false] rfl rfl 29 _ (HG2.out).raw11 (by kernel_rfl) (by kernel_rfl) (by kernel_rfl) ?_)
        refine bodyPost_ret (results_row_tmp11 rfl _ _ (w.heap.size + 1 + 1) 29 _ _ rfl HR.out Try.underlying29 rfl (by kernel_rfl)) rfl ?_
        obtain ⟨rfl, rfl⟩ := Prod.mk.inj (show (rP, rE) = (zeroP, 141) from HWF.out.symm.trans (walk_end (Int.not_le.2 HLE.out) (HK.out.trans HK0.out)))
        exact ⟨rfl, HBF.out⟩
      have x1 : ¬ (k : Int) = 0 := by omega
      by_cases hk1 : 1 < k
      · have x2 : (1 : Int) < k := by omega
        have HK1 := Lib.hid hk1
        clear hk1 hk0
        have HR := Lib.hid (has_row11 HG2.out #[.int .i64 0, .int .i64 0, .bool false])
        have HBF := Lib.hid (below_row (g := w.heap.size + 1 + 1) HB.out (by omega) #[.int .i64 0, .int .i64 0, .bool false])
        go_wp2_with (with_reducible refine wpList_store_rowTo (o := ⟨none, _, _, _, _, _⟩) rfl 29 _ _ rfl rfl (w.heap.size + 1 + 1) #[.int .i64 0, .int .i64 0, .bool false] rfl rfl 29 _ (HG2.out).raw11 (by kernel_rfl) (by kernel_rfl) (by kernel_rfl) ?_)
        refine bodyPost_ret (results_row_tmp11 rfl _ _ (w.heap.size + 1 + 1) 29 _ _ rfl HR.out Try.underlying29 rfl (by kernel_rfl)) rfl ?_
        obtain ⟨rfl, rfl⟩ := Prod.mk.inj (show (rP, rE) = (zeroP, 140) from HWF.out.symm.trans (walk_fork (Int.not_le.2 HLE.out) (by rw [HK.out]; exact HK1.out)))
        exact ⟨rfl, HBF.out⟩
      have x2 : ¬ (1 : Int) < k := by omega
      obtain ⟨s, hs⟩ := len_one (l := afterL t (stepP q)) (by rw [HK.out]; omega)
      have HS := Lib.hid hs
      rw [hs] at HSL
      clear hs
      have hk2 : k = 1 := by omega
      clear hk0 hk1
      by_cases hl4 : l = 40
      · have x3 : (l : Int) = 40 := by omega
        have HL4 := Lib.hid hl4
        clear hl4 hl hlk hk2
        have HR := Lib.hid (has_row11 HG2.out #[.int .i64 0, .int .i64 0, .bool false])
        have HBF := Lib.hid (below_row (g := w.heap.size + 1 + 1) HB.out (by omega) #[.int .i64 0, .int .i64 0, .bool false])
        go_wp2_with (with_reducible refine wpList_store_rowTo (o := ⟨none, _, _, _, _, _⟩) rfl 29 _ _ rfl rfl (w.heap.size + 1 + 1) #[.int .i64 0, .int .i64 0, .bool false] rfl rfl 29 _ (HG2.out).raw11 (by kernel_rfl) (by kernel_rfl) (by kernel_rfl) ?_)
        refine bodyPost_ret (results_row_tmp11 rfl _ _ (w.heap.size + 1 + 1) 29 _ _ rfl HR.out Try.underlying29 rfl (by kernel_rfl)) rfl ?_
        obtain ⟨rfl, rfl⟩ := Prod.mk.inj (show (rP, rE) = (zeroP, 2) from HWF.out.symm.trans (by rw [show 40 - l = 0 by have := HL4.out; omega]; exact walk_long (Int.not_le.2 HLE.out) (by rw [HS.out]; rfl)))
        exact ⟨rfl, HBF.out⟩
      have x3 : ¬ (l : Int) = 40 := by omega
      have HL := Lib.hid (show l < 40 by omega)
      clear hl4
      go_upto_region 14 with fail
      clear x1 x2 x3
      have hk3 := hk2
      subst hk3
      clear HK
      go_wp2_with (first | (with_reducible refine wpList_load_row (o := ⟨some 51, _, _, _, _, _⟩) rfl 27 _ rfl (w.heap.size) rfl 27 (tpC t a) (0, 0) _ (HG0.out).raw11 Try.underlying27 rfl (by kernel_rfl) ?_) | (with_reducible refine wpList_load_row (o := ⟨some 52, _, _, _, _, _⟩) rfl 29 _ rfl (w.heap.size + 1) rfl 29 (psA q) (0, 0) _ (HG1.out).raw11 Try.underlying29 rfl (by kernel_rfl) ?_))
      refine (rahead_any t a q w3 (HT.out w3 HB.out) HON.out HED.out).mono ?_
      rw [HAH.out]
      rintro e w4 ⟨rfl, hb⟩
      have HSL := Lib.hid (HSL.out.under hb)
      have HB := Lib.hid (HB.out.trans (hb.mono HB.out.size))
      have HG0 := Lib.hid (HG0.out.under hb HG0.out.lt)
      have HG1 := Lib.hid (HG1.out.under hb HG1.out.lt)
      have HG2 := Lib.hid (HG2.out.under hb HG2.out.lt)
      clear hb
      have hwr1 : IntKind.i64.wrap (m - ah) = m - ah := by have h1_ := HM.out; have h2_ := HAB.out; rw [IntKind.wrap_i64]; omega
      go_upto_region 15 with fail
      clear hwr1
      have HEB := Lib.hid (show edgeB t s.edge = true from (after_mem.1 (show s ∈ afterL t (stepP q) from by rw [HS.out]; exact List.mem_singleton.2 rfl)).2.1)
      have hx0 : ([s] : List St3)[0]? = some s := rfl
      obtain ⟨bk, off, hA2, -, -⟩ := HSL.out.step hx0
      have HA2 := Lib.hid hA2
      simp only [hA2]
      clear hA2 hx0
      refine wp_region_held_drew (S := (fun W_ => Has W_ (w.heap.size) 27 (tpC t a) ∧ (∃ o_ : Array Value, Has W_ (w.heap.size + 1) 29 o_ ∧ o_.size = 3) ∧ Has W_ (w.heap.size + 1 + 1) 29 #[.int .i64 0, .int .i64 0, .bool false] ∧ SlO stC 2 W_ A2 (1) c2 ([s]) ∧ Below w.heap.size w W_)) (by kernel_rfl) ?_ (fun hHeld => ?_)
      · exact ⟨HG0.out.draw, ⟨_, HG1.out.draw, by kernel_rfl⟩, HG2.out.draw, HSL.out.under (below_dr11 (Below.refl _ _)), below_dr11 HB.out⟩
      refine wpAnyH_take (i := 0) (oi := ⟨some 55, _, _, _, _, _⟩) (v := .agg (tpC t a)) rfl (by kernel_rfl) (by kernel_rfl) (by kernel_rfl) (fun _ _ _ h => h) (yields_load_row11 27 _ rfl (w.heap.size) rfl 27 (tpC t a) _ (fun _ ⟨h_, _, _, _, _⟩ => h_) Try.underlying27 rfl (by kernel_rfl) (by rfl)) (by assumption) ?_
      simp only [Act.put, List.setIfInBounds_toArray, List.set_cons_zero, List.set_cons_succ]
      refine wpAnyH_take (i := 1) (oi := ⟨some 56, _, _, _, _, _⟩) (v := ?_) rfl (by kernel_rfl) (by kernel_rfl) (by kernel_rfl) (fun _ _ _ h => h) (Or.inl ⟨by rfl, ?_⟩) (by assumption) ?_
      rotate_left
      · intro w_ hSw; (try dsimp only at hSw); go_simp <;> with_reducible rfl
      simp only [Act.put, List.setIfInBounds_toArray, List.set_cons_zero, List.set_cons_succ]
      refine wpAnyH_take (i := 2) (oi := ⟨some 57, _, _, _, _, _⟩) (v := ?_) rfl (by kernel_rfl) (by kernel_rfl) (by kernel_rfl) (fun _ _ _ h => h) (Or.inl ⟨by rfl, ?_⟩) (by assumption) ?_
      rotate_left
      · intro w_ hSw; (try dsimp only at hSw); go_simp <;> with_reducible rfl
      simp only [Act.put, List.setIfInBounds_toArray, List.set_cons_zero, List.set_cons_succ]
      refine wpAnyH_take (i := 3) (oi := ⟨some 58, _, _, _, _, _⟩) (v := ?_) rfl (by kernel_rfl) (by kernel_rfl) (by kernel_rfl) (fun _ _ _ h => h) (Or.inl ⟨by rfl, ?_⟩) (by assumption) ?_
      rotate_left
      · intro w_ hSw; (try dsimp only at hSw); obtain ⟨b_, o_, e_, cx0_, cx1_⟩ := hSw.2.2.2.1.step (j := 0) (x := s) rfl; rw [HA2.out] at e_; injection e_ with e_; injection e_ with e1_ e2_ _; subst e1_ e2_; simp only [Nat.zero_mul, Nat.add_zero] at cx0_ cx1_; go_simp <;> with_reducible rfl
      simp only [Act.put, List.setIfInBounds_toArray, List.set_cons_zero, List.set_cons_succ]
      refine wpAnyH_ready (rs := [4]) (by kernel_rfl) (by simp) ?_
      refine AllReadyH.cons (o := ⟨some 59, _, _, _, _, _⟩) rfl (fun K hK => ?_) ?_
      · go_simp
        obtain ⟨s0, s1, s2, s3, s4⟩ := hHeld
        refine (rbegin_any t a s _ (HT.out _ s4) HEB.out).mono ?_
        rintro e_ vs ⟨rfl, hbs⟩
        go_wp2_with fail
        refine hK.out _ _ ?_ (fun hHeld => ?_)
        · exact ⟨s0.under hbs s0.lt, (let ⟨o_, h_, e_⟩ := s1; ⟨o_, h_.under hbs h_.lt, e_⟩), s2.under hbs s2.lt, s3.under hbs, s4.trans (hbs.mono s4.size)⟩
        clear hK K s0 s1 s2 s3 s4
        try simp only [Act.put, List.setIfInBounds_toArray, List.set_cons_zero, List.set_cons_succ]
        refine wpAnyH_ready (rs := [5]) (by kernel_rfl) (by simp) ?_
        refine AllReadyH.cons (o := ⟨none, _, _, _, _, _⟩) rfl (fun K hK => ?_) ?_
        · rw [if_pos (by rfl)]
          obtain ⟨s0, s1, s2, s3, s4⟩ := hHeld
          obtain ⟨o_, h_, e_⟩ := s1
          refine wp_store_row 29 _ _ rfl (w.heap.size + 1) (psA (beginP t s)) (by rfl) (by rfl) 29 o_ h_.raw11 (by kernel_rfl) e_ (by kernel_rfl) ?_
          refine hK.out _ _ ?_ (fun hHeld => ?_)
          · exact ⟨has_rowo11 s0 (by omega) _, ⟨_, has_row11 h_ (psA (beginP t s)), by kernel_rfl⟩, has_rowo11 s2 (by omega) _, ⟨s3.1, sl_row11 s3.2 (fun a_ h_ => by have := HLO.out a_ h_; omega) _⟩, below_row s4 (by omega) _⟩
          refine wpAnyH_more11 (T := (fun W_ => Has W_ (w.heap.size) 27 (tpC t a) ∧ Has W_ (w.heap.size + 1) 29 (psA (beginP t s)) ∧ Has W_ (w.heap.size + 1 + 1) 29 #[.int .i64 0, .int .i64 0, .bool false] ∧ SlO stC 2 W_ A2 (1) c2 ([s]) ∧ Below w.heap.size w W_)) (fun _ ⟨s0, s1, s2, s3, s4⟩ => ⟨s0, ⟨_, s1, by kernel_rfl⟩, s2, s3, s4⟩) ?_
          have hHeld2 : (fun W_ => Has W_ (w.heap.size) 27 (tpC t a) ∧ Has W_ (w.heap.size + 1) 29 (psA (beginP t s)) ∧ Has W_ (w.heap.size + 1 + 1) 29 #[.int .i64 0, .int .i64 0, .bool false] ∧ SlO stC 2 W_ A2 (1) c2 ([s]) ∧ Below w.heap.size w W_) _ := ⟨has_rowo11 s0 (by omega) _, has_row11 h_ (psA (beginP t s)), has_rowo11 s2 (by omega) _, ⟨s3.1, sl_row11 s3.2 (fun a_ h_ => by have := HLO.out a_ h_; omega) _⟩, below_row s4 (by omega) _⟩
          clear hHeld
          have hHeld := hHeld2
          clear hHeld2 hK K h_ e_ s0 s2 s3 s4
          try simp only [Act.put]
          refine wpAnyH_done (by kernel_rfl) ?_ _
          go_wp2
          go_roundg (gk - 1)
          case measure => omega
          case rel =>
            refine ⟨l + 1, m - ah, beginP t s, by have := HL.out; omega, by omega, by go_num, rfl, Lib.hid (by have h1_ := HM.out; have h2_ := HAB.out; have h3_ := HLE.out; rw [HAH.out] at h3_; omega), Lib.hid (begin_on HED.out HEB.out), Lib.hid ?_, Lib.hid hHeld.2.2.2.2, Lib.hid hHeld.1, Lib.hid hHeld.2.1, Lib.hid hHeld.2.2.1⟩
            rw [← HAH.out, show 40 - (l + 1) = 40 - l - 1 by omega, ← walk_next14 (Int.not_le.2 HLE.out) HS.out (by have := HL.out; omega)]
            exact HWF.out
        exact AllReadyH.nil
      exact AllReadyH.nil

end Go.Proofs.Ytfchmjldhefmkaa
