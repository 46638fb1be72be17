/-
  span as landed: bounds, join.
-/
import Derived.Test.YteioefgckigbcaaSnA

import Derived.BigQuiet

import Derived.IntWalk

namespace Go.Proofs.Yteioefgckigbcaa

open Go.RowKit

open Go.Great

theorem info_bd15 : (Try.prog.info? 102).map (fun i => (i.zero, i.size, i.bytes)) = some (some (.agg #[.int .i64 0, .int .i64 0, .int .i64 0, .int .i64 0]), 4, 32) := by kernel_rfl
theorem one_bd15 (d : Bd4) : ∀ u ∈ bdC d, u.oneCell' = true := by
  intro u hu
  simp only [bdC, List.mem_cons, List.not_mem_nil, or_false] at hu
  rcases hu with rfl | rfl | rfl | rfl <;> rfl
theorem take_succ15 {α : Type} {l : List α} {i : Nat} {x : α} (h : l[i]? = some x) : l.take (i + 1) = l.take i ++ [x] := by
  rw [List.take_add_one, h]
  rfl
set_option maxRecDepth 100000 in
set_option maxHeartbeats 8000000 in
theorem osbnd_any (l : List Sn3) (A : Option Addr) (n c : Nat) (a b : Int) (w : World) (hs : SlO snC 3 w A n c l) (hn : n ≤ 4096) (ha : -1 ≤ a ∧ a ≤ 1) (hb : -1 ≤ b ∧ b ≤ 1) :
    Calls Try.prog 47 #[.slice A n c, .int .i64 a, .int .i64 b] w fun r w' => ∃ X k x, r = .returned (.slice X k x) ∧ OwR bdC 4 102 w.heap.size w' X k x (bdsL a b l) ∧ Below w.heap.size w w' := by
  have HL := Lib.hid hs.1
  have HS := Lib.hid (fun W (hW : Below w.heap.size w W) => hs.under hW)
  have hx0 : (0 : Int) ≤ n := by omega
  have n1 : wrap64 (-a) = -a := IntWalk.wrap64_in _ (by omega)
  have n2 : wrap64 (-b) = -b := IntWalk.wrap64_in _ (by omega)
  clear hs ha hb
  go_enter Try.func47, Try.ntmps47
  go_wp2
  go_loopg [7, 12] n (fun kk v7 v12 wl => ∃ (i k : Nat) (X : Option Addr) (x : Nat), i ≤ n ∧ n - i ≤ kk ∧ v12 = .int .i64 i ∧ v7 = .slice X k x ∧ Hid (OwR bdC 4 102 w.heap.size wl X k x (bdsL a b (l.take i))) ∧ Hid (Below w.heap.size w wl))
  case atStart => exact ⟨0, 0, none, 0, by omega, by omega, rfl, rfl, Lib.hid (OwR.nil _ _ _ _ _), Lib.hid (Below.refl _ _)⟩
  case round =>
    obtain ⟨i, k, X, x, hi, hik, rfl, rfl, HO, HB⟩ := hrel
    obtain ⟨k1, hk1⟩ : ∃ k1, k1 = gk := ⟨_, rfl⟩
    subst hk1
    obtain ⟨wv, hwv⟩ : ∃ wv, wv = wr := ⟨_, rfl⟩
    subst hwv
    by_cases hlt : i < n
    rotate_left
    · obtain rfl : i = n := by omega
      have x1 : ¬ (i : Int) < i := by omega
      have HE : Hid (l.take i = l) := Lib.hid (List.take_of_length_le (by rw [HL.out]; exact Nat.le_refl _))
      clear hik hlt
      go_wp2
      go_ret
      exact ⟨X, k, x, rfl, by have h_ := HO.out; rw [HE.out] at h_; exact h_, HB.out⟩
    obtain ⟨s, hs⟩ : ∃ s, l[i]? = some s := ⟨_, List.getElem?_eq_getElem (by rw [HL.out]; omega)⟩
    have HT : Hid (bdsL a b (l.take (i + 1)) = bdsL a b (l.take i) ++ bdsS a b s) := Lib.hid (by rw [take_succ15 hs, bdsL_snoc])
    have HKB : Hid (k ≤ 2 * i) := Lib.hid (by have h1_ := HO.out.2; have h2_ := bds_len a b (l.take i); rw [List.length_take] at h2_; omega)
    obtain ⟨bk, off, rfl, d0, d1, d2⟩ := (HS.out wv HB.out).span hs
    clear hs
    have x1 : (i : Int) < n := by omega
    have x2 : (0 : Int) ≤ i := by omega
    have HV := Lib.hid (fun W => osis_any s W)
    unfold bdsS at HT
    obtain ⟨q, hq⟩ : ∃ q, validB s = q := ⟨_, rfl⟩
    rw [hq] at HV HT
    clear hq
    obtain ⟨se, sl, sh⟩ := s
    unfold snA at HV
    dsimp only at *
    go_upto_region 5 with fail
    obtain ⟨wb, hwb⟩ : ∃ wb, wv.alloc (.cells #[.int .i64 se, .int .i64 sl, .int .i64 sh] 80) = wb := ⟨_, rfl⟩
    rw [hwb]
    have HBN := Lib.hid (show Below w.heap.size w wb from by rw [← hwb]; exact HB.out.alloc HB.out.size _)
    have HON := Lib.hid (show OwR bdC 4 102 w.heap.size wb X k x (bdsL a b (l.take i)) from HO.out.under (by rw [← hwb]; exact (Below.refl _ _).alloc (Nat.le_refl _) _))
    have hh : Has wb wv.heap.size 80 #[.int .i64 se, .int .i64 sl, .int .i64 sh] := by rw [← hwb]; exact Has.made _ _ _
    obtain ⟨gb, hgb⟩ : ∃ g, wv.heap.size = g := ⟨_, rfl⟩
    simp only [hgb] at hh ⊢
    have HH := Lib.hid hh
    clear hh hwb hgb d0 d1 d2 x1 x2 HO HB
    go_wp2_with (with_reducible refine wpList_load_row (o := ⟨some 16, _, _, _, _, _⟩) rfl 80 _ rfl (gb) rfl 80 #[.int .i64 se, .int .i64 sl, .int .i64 sh] (0, 0) _ (HH.out).raw11 Try.underlying80 rfl (by kernel_rfl) ?_)
    refine (HV.out _).mono ?_
    rintro e_ v1 ⟨rfl, hb1⟩
    have HB1 := Lib.hid (HBN.out.trans (hb1.mono HBN.out.size))
    have HO1 := Lib.hid (HON.out.under hb1)
    have hh := HH.out.under hb1 HH.out.lt
    have g0 : v1.cell? ⟨gb, 0, none⟩ = some (.int .i64 se) := hh.cell 0
    have g1 : v1.cell? ⟨gb, 1, none⟩ = some (.int .i64 sl) := hh.cell 1
    have g2 : v1.cell? ⟨gb, 2, none⟩ = some (.int .i64 sh) := hh.cell 2
    clear hb1 HBN HON HH hh HV
    cases q with
    | false =>
      rw [if_neg (by decide), List.append_nil] at HT
      go_wp2
      go_roundg (k1 - 1)
      case measure => omega
      case rel => exact ⟨i + 1, k, X, x, by omega, by omega, by go_num, rfl, Lib.hid (by rw [HT.out]; exact HO1.out), HB1⟩
    | true =>
      rw [if_pos rfl] at HT
      have hsl : SlO bdC 4 (v1.alloc (.cells #[.int .i64 se, .int .i64 sl, .int .i64 a, .int .i64 b, .int .i64 se, .int .i64 sh, .int .i64 (-a), .int .i64 (-b)] 102)) (some ⟨v1.heap.size, 0, none⟩) 2 2 [⟨se, sl, a, b⟩, ⟨se, sh, -a, -b⟩] := ⟨rfl, sl_hasR (Has.made _ _ _) rfl⟩
      obtain ⟨hO, hSL, h1, hBD⟩ := pourR 32 (HO1.out.under ((Below.refl _ _).alloc (Nat.le_refl _) (.cells #[.int .i64 se, .int .i64 sl, .int .i64 a, .int .i64 b, .int .i64 se, .int .i64 sh, .int .i64 (-a), .int .i64 (-b)] 102))) hsl one_bd15 (by have h_ := HB1.out.size; simp; omega) (by have h_ := HKB.out; omega) (by omega)
      have HBW := Lib.hid (show Below w.heap.size w (v1.alloc (.cells #[.int .i64 se, .int .i64 sl, .int .i64 a, .int .i64 b, .int .i64 se, .int .i64 sh, .int .i64 (-a), .int .i64 (-b)] 102)) from HB1.out.alloc HB1.out.size _)
      have HLN := Lib.hid HO1.out.2
      clear hsl HO1 HB1
      go_upto_region 6 with fail
      go_wp2_with (with_reducible refine wpList_pour (o := ⟨some 36, _, _, _, _, _⟩) rfl (.tmp 18) (.tmp 35) 98 rfl w.heap.size 102 (.agg #[.int .i64 0, .int .i64 0, .int .i64 0, .int .i64 0]) 4 32 Try.underlying98 info_bd15 ?hz1 (by decide) X (k) x ((bdsL a b (l.take i)).flatMap bdC) ?hs1 hO (some ⟨v1.heap.size, 0, none⟩) 2 2 (([⟨se, sl, a, b⟩, ⟨se, sh, -a, -b⟩] : List Bd4).flatMap bdC) ?hx1 hSL h1 hBD ?next1)
      all_goals try rfl
      case next1 =>
        intro A1 c1 v2 ho hg
        have HO2 := Lib.hid (OwR.poured (f := bdC) (l' := [⟨se, sl, a, b⟩, ⟨se, sh, -a, -b⟩]) HLN.out rfl (by rw [show ([⟨se, sl, a, b⟩, ⟨se, sh, -a, -b⟩] : List Bd4).flatMap bdC = bdC ⟨se, sl, a, b⟩ ++ bdC ⟨se, sh, -a, -b⟩ from rfl]; exact ho.out))
        have HB2 := Lib.hid (below_own HBW.out HBW.out.size hO.out (Nat.le_refl _) rfl hg.out)
        clear ho hg hO hSL h1 hBD HBW HLN n1 n2 g0 g1 g2
        go_wp2
        go_roundg (k1 - 1)
        case measure => omega
        case rel => exact ⟨i + 1, k + 2, A1, c1, by omega, by omega, by go_num, rfl, Lib.hid (by rw [HT.out]; exact HO2.out), HB2⟩

theorem flat_set {l : List Sn3} {j : Nat} {x y : Sn3} (hx : l[j]? = some x) (h0 : x.edge = y.edge) (h1 : x.lo = y.lo) : (l.set j y).flatMap snC = (l.flatMap snC).set (j * 3 + 2) (.int .i64 y.hi) := by
  induction l generalizing j with
  | nil => simp at hx
  | cons z r ih =>
    cases j with
    | zero =>
      simp at hx
      subst hx
      simp [snC, h0, h1]
    | succ m =>
      have := ih (j := m) (by simpa using hx)
      rw [List.set_cons_succ, List.flatMap_cons, this, List.flatMap_cons]
      rw [show (m + 1) * 3 + 2 = (snC z).length + (m * 3 + 2) by simp [snC]; omega]
      rw [List.set_append_right _ _ (by omega)]
      congr 2
      omega
theorem join_set {l : List Sn3} {s t : Sn3} {j : Nat} (hl : l.length = j + 1) (ht : l[j]? = some t) (hc : t.edge = s.edge ∧ t.hi = s.lo) : joinL l s = l.set j ⟨t.edge, t.lo, s.hi⟩ ∧ (joinL l s).length = j + 1 := by
  rcases snoc_or_nil l with rfl | ⟨m, u, rfl⟩
  · simp at hl
  · have hm : m.length = j := by simpa using hl
    subst hm
    rw [List.getElem?_append_right (Nat.le_refl _)] at ht
    simp at ht
    subst ht
    rw [joinL_snoc, if_pos hc, List.set_append_right _ _ (Nat.le_refl _)]
    simp
theorem join_push {l : List Sn3} {s t : Sn3} {j : Nat} (hl : l.length = j + 1) (ht : l[j]? = some t) (hc : ¬ (t.edge = s.edge ∧ t.hi = s.lo)) : joinL l s = l ++ [s] := by
  rcases snoc_or_nil l with rfl | ⟨m, u, rfl⟩
  · simp at hl
  · have hm : m.length = j := by simpa using hl
    subst hm
    rw [List.getElem?_append_right (Nat.le_refl _)] at ht
    simp at ht
    subst ht
    rw [joinL_snoc, if_neg hc]
set_option maxRecDepth 100000 in
set_option maxHeartbeats 8000000 in
theorem osjoin_any (l : List Sn3) (s : Sn3) (base : Nat) (A : Option Addr) (n c : Nat) (w : World) (ho : OwR snC 3 80 base w A n c l) (hbase : base ≤ w.heap.size) (hn : n ≤ 100000) :
    Calls Try.prog 60 #[.slice A n c, .agg (snA s)] w fun r w' => ∃ X k x, r = .returned (.slice X k x) ∧ OwR snC 3 80 base w' X k x (joinL l s) ∧ w.grownBy w' (Value.slice A n c).ownBlock := by
  obtain ⟨wa, hwa⟩ : ∃ wa, w.alloc (.cells (snA s) 80) = wa := ⟨_, rfl⟩
  have hbwa : Below w.heap.size w wa := by rw [← hwa]; exact (Below.refl _ _).alloc (Nat.le_refl _) _
  have h0 : Has wa (w.heap.size) 80 (snA s) := by rw [← hwa]; exact (Has.made _ _ _)
  have HWA := Lib.hid hwa; have HBWA := Lib.hid hbwa
  have c0 : wa.cell? ⟨w.heap.size, 0, none⟩ = some (.int .i64 s.edge) := h0.cell 0
  have c1 : wa.cell? ⟨w.heap.size, 1, none⟩ = some (.int .i64 s.lo) := h0.cell 1
  have c2 : wa.cell? ⟨w.heap.size, 2, none⟩ = some (.int .i64 s.hi) := h0.cell 2
  have HO := Lib.hid (show OwR snC 3 80 base wa A n c l from ho.under (by rw [← hwa]; exact (Below.refl _ _).alloc (Nat.le_refl _) _))
  have HG : Hid (w.grownBy wa (Value.slice A n c).ownBlock) := Lib.hid (by rw [← hwa]; exact World.grownBy_alloc w _ _)
  have HH := Lib.hid h0
  have HBA := Lib.hid (show base ≤ wa.heap.size from Nat.le_trans hbase hbwa.size)
  have HL := Lib.hid ho.2
  clear hwa hbwa h0 ho hbase HBWA
  obtain ⟨se, sl, sh⟩ := s
  unfold snA at *
  dsimp only at *
  by_cases h0 : n = 0
  · subst h0
    obtain rfl : l = [] := List.eq_nil_of_length_eq_zero HL.out
    have z0 : decide ((-1 : Int) ≥ 0) = false := by decide
    have z1 : decide ((0 : Int) ≤ -1) = false := by decide
    go_enter Try.func60, Try.ntmps60
    go_upto_region 2 with fail
    rw [HWA.out]
    clear HWA
    go_wp2
    go_quiet (fail)
    obtain ⟨wx, hwx⟩ : ∃ wx, wa.drewN nq = wx := ⟨_, rfl⟩
    have HO2 : Hid (OwR snC 3 80 base wx A 0 c []) := Lib.hid (by rw [← hwx]; exact HO.out)
    have HG2 : Hid (w.grownBy wx (Value.slice A 0 c).ownBlock) := Lib.hid (by rw [← hwx]; exact only_draws HG.out _)
    have HH2 : Hid (Has wx (w.heap.size) 80 #[.int .i64 se, .int .i64 sl, .int .i64 sh]) := Lib.hid (by rw [← hwx]; exact HH.out)
    have HB2 : Hid (base ≤ wx.heap.size) := Lib.hid (by rw [← hwx]; exact HBA.out)
    rw [hwx]
    clear hwx HO HG HH HBA
    obtain ⟨hN, hO, hC, h1, hBD⟩ := pushR (f := snC) (k := 3) (e := 80) (w := wx) 24 ⟨se, sl, sh⟩ #[.int .i64 se, .int .i64 sl, .int .i64 sh] rfl rfl (one_sn15 _) HO2.out HB2.out (by first | omega | (have h_ := HNB.out; omega)) (by omega)
    have HLN := Lib.hid HO2.out.2
    have HG3 : Hid (w.grownBy (wx.alloc (.cells #[.int .i64 se, .int .i64 sl, .int .i64 sh] 80)) (Value.slice A 0 c).ownBlock) := Lib.hid (HG2.out.trans (World.grownBy_alloc wx _ _))
    clear HO2 HG2
    go_wp2_with (first | (with_reducible refine wpList_load_row (o := ⟨some 39, _, _, _, _, _⟩) rfl 80 _ rfl (w.heap.size) rfl 80 #[.int .i64 se, .int .i64 sl, .int .i64 sh] (0, 0) _ (HH2.out).raw11 Try.underlying80 rfl (by kernel_rfl) ?_) | (with_reducible refine wpList_push (o := ⟨some 41, _, _, _, _, _⟩) rfl (.tmp 38) (.tmp 40) 39 rfl base 80 (.agg #[.int .i64 0, .int .i64 0, .int .i64 0]) 3 24 Try.underlying39 info_span15 ?hz1 (by decide) A (0) c (([]).flatMap snC) ?hs1 hO ⟨wx.heap.size, 0, none⟩ 1 1 (snC ⟨se, sl, sh⟩) ?hx1 hN hC h1 hBD ?next1))
    all_goals try rfl
    case next1 =>
      intro A1 c1 v1 ho hg
      have HF : Hid (OwR snC 3 80 base v1 A1 1 c1 [⟨se, sl, sh⟩]) := Lib.hid ⟨ho.out, rfl⟩
      have HGF := Lib.hid (HG3.out.trans hg.out)
      clear ho hg hN hO hC h1 hBD HG3 HLN
      go_wp2
      go_ret
      exact ⟨A1, _, c1, rfl, by first | exact HF.out | (rw [HJ.out]; exact HF.out), HGF.out⟩
  obtain ⟨j, hj⟩ : ∃ j, n = j + 1 := ⟨n - 1, by omega⟩
  obtain ⟨t, ht⟩ : ∃ t, l[n - 1]? = some t := ⟨_, List.getElem?_eq_getElem (by rw [HL.out]; omega)⟩
  have HX := Lib.hid ht
  obtain ⟨bk, rfl, hbk, hbl⟩ := HO.out.some (by omega)
  have hc_ := HO.out.sl.at_cell (fun _ => rfl) (by decide) ht (i := 0) rfl
  have hc1_ := HO.out.sl.at_cell (fun _ => rfl) (by decide) ht (i := 2) rfl
  have e0 : 0 + (n - 1) * 3 + 0 = (n - 1) * 3 := by omega
  have e2 : 0 + (n - 1) * 3 + 2 = (n - 1) * 3 + 2 := by omega
  rw [e0] at hc_
  rw [e2] at hc1_
  have r1 : wrap64 ((n : Int) - 1) = (n : Int) - 1 := IntWalk.wrap64_in _ (by omega)
  have r2 : ((n : Int) - 1).toNat = n - 1 := by omega
  have z0 : (0 : Int) ≤ (n : Int) - 1 := by omega
  have z2 : (n : Int) - 1 < n := by omega
  have z4 : (1 : Int) ≤ (n : Int) := by omega
  have HNB := Lib.hid (show n ≤ 100000 ∧ n = j + 1 from ⟨hn, hj⟩)
  have HL1 := Lib.hid (show l.length = (n - 1) + 1 by rw [HL.out]; omega)
  obtain ⟨te, tl, th⟩ := t
  dsimp only at *
  clear e0 e2 ht h0 hn hj hbk hbl
  by_cases y1 : te = se
  rotate_left
  · skip
    have q1 : (te == se) = false := by simp [y1]
    have HJ := Lib.hid (join_push (s := ⟨se, sl, sh⟩) HL1.out HX.out (fun h_ => by first | exact y1 h_.1 | exact y2 h_.2))
    clear y1
    go_enter Try.func60, Try.ntmps60
    go_upto_region 2 with fail
    rw [HWA.out]
    clear HWA
    go_wp2
    go_quiet (fail)
    obtain ⟨wx, hwx⟩ : ∃ wx, wa.drewN nq = wx := ⟨_, rfl⟩
    have HO2 : Hid (OwR snC 3 80 base wx (some ⟨bk, 0, none⟩) n c l) := Lib.hid (by rw [← hwx]; exact HO.out)
    have HG2 : Hid (w.grownBy wx (Value.slice (some ⟨bk, 0, none⟩) n c).ownBlock) := Lib.hid (by rw [← hwx]; exact only_draws HG.out _)
    have HH2 : Hid (Has wx (w.heap.size) 80 #[.int .i64 se, .int .i64 sl, .int .i64 sh]) := Lib.hid (by rw [← hwx]; exact HH.out)
    have HB2 : Hid (base ≤ wx.heap.size) := Lib.hid (by rw [← hwx]; exact HBA.out)
    rw [hwx]
    clear hwx HO HG HH HBA
    obtain ⟨hN, hO, hC, h1, hBD⟩ := pushR (f := snC) (k := 3) (e := 80) (w := wx) 24 ⟨se, sl, sh⟩ #[.int .i64 se, .int .i64 sl, .int .i64 sh] rfl rfl (one_sn15 _) HO2.out HB2.out (by first | omega | (have h_ := HNB.out; omega)) (by omega)
    have HLN := Lib.hid HO2.out.2
    have HG3 : Hid (w.grownBy (wx.alloc (.cells #[.int .i64 se, .int .i64 sl, .int .i64 sh] 80)) (Value.slice (some ⟨bk, 0, none⟩) n c).ownBlock) := Lib.hid (HG2.out.trans (World.grownBy_alloc wx _ _))
    clear HO2 HG2
    go_wp2_with (first | (with_reducible refine wpList_load_row (o := ⟨some 39, _, _, _, _, _⟩) rfl 80 _ rfl (w.heap.size) rfl 80 #[.int .i64 se, .int .i64 sl, .int .i64 sh] (0, 0) _ (HH2.out).raw11 Try.underlying80 rfl (by kernel_rfl) ?_) | (with_reducible refine wpList_push (o := ⟨some 41, _, _, _, _, _⟩) rfl (.tmp 38) (.tmp 40) 39 rfl base 80 (.agg #[.int .i64 0, .int .i64 0, .int .i64 0]) 3 24 Try.underlying39 info_span15 ?hz2 (by decide) (some ⟨bk, 0, none⟩) (n) c ((l).flatMap snC) ?hs2 hO ⟨wx.heap.size, 0, none⟩ 1 1 (snC ⟨se, sl, sh⟩) ?hx2 hN hC h1 hBD ?next2))
    all_goals try rfl
    case next2 =>
      intro A2 c2 v2 ho hg
      have HF := Lib.hid (OwR.snoc HLN.out ho.out)
      have HGF := Lib.hid (HG3.out.trans hg.out)
      clear ho hg hN hO hC h1 hBD HG3 HLN
      go_wp2
      go_ret
      exact ⟨A2, _, c2, rfl, by first | exact HF.out | (rw [HJ.out]; exact HF.out), HGF.out⟩
  by_cases y2 : th = sl
  rotate_left
  · skip
    have q1 : (te == se) = true := by simp [y1]
    have q2 : (th == sl) = false := by simp [y2]
    have HJ := Lib.hid (join_push (s := ⟨se, sl, sh⟩) HL1.out HX.out (fun h_ => by first | exact y1 h_.1 | exact y2 h_.2))
    clear y1 y2
    go_enter Try.func60, Try.ntmps60
    go_upto_region 2 with fail
    rw [HWA.out]
    clear HWA
    go_wp2
    go_quiet (fail)
    obtain ⟨wx, hwx⟩ : ∃ wx, wa.drewN nq = wx := ⟨_, rfl⟩
    have HO2 : Hid (OwR snC 3 80 base wx (some ⟨bk, 0, none⟩) n c l) := Lib.hid (by rw [← hwx]; exact HO.out)
    have HG2 : Hid (w.grownBy wx (Value.slice (some ⟨bk, 0, none⟩) n c).ownBlock) := Lib.hid (by rw [← hwx]; exact only_draws HG.out _)
    have HH2 : Hid (Has wx (w.heap.size) 80 #[.int .i64 se, .int .i64 sl, .int .i64 sh]) := Lib.hid (by rw [← hwx]; exact HH.out)
    have HB2 : Hid (base ≤ wx.heap.size) := Lib.hid (by rw [← hwx]; exact HBA.out)
    rw [hwx]
    clear hwx HO HG HH HBA
    obtain ⟨hN, hO, hC, h1, hBD⟩ := pushR (f := snC) (k := 3) (e := 80) (w := wx) 24 ⟨se, sl, sh⟩ #[.int .i64 se, .int .i64 sl, .int .i64 sh] rfl rfl (one_sn15 _) HO2.out HB2.out (by first | omega | (have h_ := HNB.out; omega)) (by omega)
    have HLN := Lib.hid HO2.out.2
    have HG3 : Hid (w.grownBy (wx.alloc (.cells #[.int .i64 se, .int .i64 sl, .int .i64 sh] 80)) (Value.slice (some ⟨bk, 0, none⟩) n c).ownBlock) := Lib.hid (HG2.out.trans (World.grownBy_alloc wx _ _))
    clear HO2 HG2
    go_wp2_with (first | (with_reducible refine wpList_load_row (o := ⟨some 39, _, _, _, _, _⟩) rfl 80 _ rfl (w.heap.size) rfl 80 #[.int .i64 se, .int .i64 sl, .int .i64 sh] (0, 0) _ (HH2.out).raw11 Try.underlying80 rfl (by kernel_rfl) ?_) | (with_reducible refine wpList_push (o := ⟨some 41, _, _, _, _, _⟩) rfl (.tmp 38) (.tmp 40) 39 rfl base 80 (.agg #[.int .i64 0, .int .i64 0, .int .i64 0]) 3 24 Try.underlying39 info_span15 ?hz3 (by decide) (some ⟨bk, 0, none⟩) (n) c ((l).flatMap snC) ?hs3 hO ⟨wx.heap.size, 0, none⟩ 1 1 (snC ⟨se, sl, sh⟩) ?hx3 hN hC h1 hBD ?next3))
    all_goals try rfl
    case next3 =>
      intro A3 c3 v3 ho hg
      have HF := Lib.hid (OwR.snoc HLN.out ho.out)
      have HGF := Lib.hid (HG3.out.trans hg.out)
      clear ho hg hN hO hC h1 hBD HG3 HLN
      go_wp2
      go_ret
      exact ⟨A3, _, c3, rfl, by first | exact HF.out | (rw [HJ.out]; exact HF.out), HGF.out⟩
  have q1 : (te == se) = true := by simp [y1]
  have q2 : (th == sl) = true := by simp [y2]
  have HJ := Lib.hid (join_set (s := ⟨se, sl, sh⟩) HL1.out HX.out ⟨y1, y2⟩)
  clear y1 y2
  go_enter Try.func60, Try.ntmps60
  go_upto_region 2 with fail
  rw [HWA.out]
  clear HWA
  go_wp2
  go_quiet (fail)
  obtain ⟨wx, hwx⟩ : ∃ wx, wa.drewN nq = wx := ⟨_, rfl⟩
  have HO2 : Hid (OwR snC 3 80 base wx (some ⟨bk, 0, none⟩) n c l) := Lib.hid (by rw [← hwx]; exact HO.out)
  have HG2 : Hid (w.grownBy wx (Value.slice (some ⟨bk, 0, none⟩) n c).ownBlock) := Lib.hid (by rw [← hwx]; exact only_draws HG.out _)
  have HH2 : Hid (Has wx (w.heap.size) 80 #[.int .i64 se, .int .i64 sl, .int .i64 sh]) := Lib.hid (by rw [← hwx]; exact HH.out)
  have HB2 : Hid (base ≤ wx.heap.size) := Lib.hid (by rw [← hwx]; exact HBA.out)
  rw [hwx]
  clear hwx HO HG HH HBA
  have k2 : wx.cell? ⟨w.heap.size, 2, none⟩ = some (.int .i64 sh) := HH2.out.cell 2
  have f2 : wx.frozen? ⟨bk, (n - 1) * 3 + 2, none⟩ = false := HO2.out.thaw _
  have k3 : wx.cell? ⟨bk, (n - 1) * 3 + 2, none⟩ = some (.int .i64 th) := by first | assumption | (have h_ := HO2.out.sl.at_cell (fun _ => rfl) (by decide) HX.out (i := 2) rfl; rw [show 0 + (n - 1) * 3 + 2 = (n - 1) * 3 + 2 by omega] at h_; exact h_)
  have HOF := Lib.hid (OwR.set HO2.out (j := (n - 1) * 3 + 2) (u := .int .i64 sh) (l' := l.set (n - 1) ⟨te, tl, sh⟩) (by rw [List.length_set]; exact HL.out) (flat_set HX.out rfl rfl))
  have HGF : Hid (w.grownBy (wx.setCell ⟨bk, (n - 1) * 3 + 2, none⟩ (.int .i64 sh)) (Value.slice (some ⟨bk, 0, none⟩) n c).ownBlock) := Lib.hid (only_store (p := ⟨bk, (n - 1) * 3 + 2, none⟩) HG2.out (by rfl) _)
  clear HO2 HG2 HH2 HB2
  go_wp2
  go_ret
  exact ⟨_, _, c, rfl, by rw [HJ.out.1]; exact HOF.out, HGF.out⟩

end Go.Proofs.Yteioefgckigbcaa
