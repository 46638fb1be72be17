/-
  linesideref15, by contract: Has, wanted, with, Same.
-/
import Derived.Test.YteioefgckigbcaaGreatSnEq

import Derived.BigQuiet

import Derived.IntWalk

namespace Go.Proofs.YteioefgckigbcaaGreat

open Go.RowKit

open Go.Great

set_option maxRecDepth 100000 in
set_option maxHeartbeats 8000000 in
theorem rshas_any (l : List Sn3) (A : Option Addr) (n c : Nat) (e x : Int) (w : World) (hs : SlO snC 3 w A n c l) (hn : n ≤ 1048576) :
    Calls Tryz.prog 96 #[.slice A n c, .int .i64 e, .int .i64 x] w fun r w' => r = .returned (.bool (hasL l e x)) ∧ Below w.heap.size w w' := by
  have HL := Lib.hid hs.1
  have HS := Lib.hid (fun W (hW : Below w.heap.size w W) => hs.under hW)
  obtain ⟨R, hR⟩ : ∃ R, hasL l e x = R := ⟨_, rfl⟩
  have HR := Lib.hid hR
  rw [hR]
  clear hR hs
  have hx0 : (0 : Int) ≤ n := by omega
  go_enter Tryz.func96, Tryz.ntmps96
  go_wp2
  go_loopg [7] n (fun kk v7 wl => ∃ i : Nat, i ≤ n ∧ n - i ≤ kk ∧ v7 = .int .i64 i ∧ Hid (∀ j s, j < i → l[j]? = some s → hasS s e x = false) ∧ Hid (Below w.heap.size w wl))
  case atStart => exact ⟨0, by omega, by omega, rfl, Lib.hid fun j s h => absurd h (by omega), Lib.hid (Below.refl _ _)⟩
  case round =>
    obtain ⟨i, hi, hik, rfl, HNO, HB⟩ := hrel
    by_cases hlt : i < n
    rotate_left
    · have x1 : ¬ (i : Int) < n := by omega
      have HF : Hid (R = false) := Lib.hid (by
        rw [← HR.out]
        cases hq : hasL l e x with
        | false => rfl
        | true =>
          obtain ⟨s, h1, h2⟩ := hasL_iff.1 hq
          obtain ⟨j, hj, rfl⟩ := List.getElem_of_mem h1
          rw [HNO.out j _ (by have := HL.out; omega) (List.getElem?_eq_getElem hj)] at h2
          cases h2)
      go_wp2
      go_ret
      exact ⟨by rw [HF.out]; rfl, HB.out⟩
    obtain ⟨s, hs⟩ : ∃ s, l[i]? = some s := ⟨_, List.getElem?_eq_getElem (by rw [HL.out]; omega)⟩
    have HX := Lib.hid hs
    obtain ⟨bk, off, rfl, d0, d1, d2⟩ := (HS.out wr HB.out).span hs
    clear hs
    have x1 : (i : Int) < n := by omega
    have x2 : (0 : Int) ≤ i := by omega
    obtain ⟨q, hq⟩ : ∃ q, hasS s e x = q := ⟨_, rfl⟩
    have HQ := Lib.hid hq
    clear hq
    obtain ⟨se, sl, sh⟩ := s
    dsimp only at *
    obtain ⟨k1, hk1⟩ : ∃ k1, k1 = gk := ⟨_, rfl⟩
    subst hk1
    obtain ⟨wv, hwv⟩ : ∃ wv, wv = wr := ⟨_, rfl⟩
    subst hwv
    go_upto_region 5 with fail
    obtain ⟨wb, hwb⟩ : ∃ wb, wv.alloc (.cells #[.int .i64 se, .int .i64 sl, .int .i64 sh] 69) = wb := ⟨_, rfl⟩
    rw [hwb]
    have HBN := Lib.hid (show Below w.heap.size w wb from by rw [← hwb]; exact HB.out.alloc HB.out.size _)
    have hh : Has wb wv.heap.size 69 #[.int .i64 se, .int .i64 sl, .int .i64 sh] := by rw [← hwb]; exact Has.made _ _ _
    have g0 : wb.cell? ⟨wv.heap.size, 0, none⟩ = some (.int .i64 se) := hh.cell 0
    have g1 : wb.cell? ⟨wv.heap.size, 1, none⟩ = some (.int .i64 sl) := hh.cell 1
    have g2 : wb.cell? ⟨wv.heap.size, 2, none⟩ = some (.int .i64 sh) := hh.cell 2
    obtain ⟨gb, hgb⟩ : ∃ g, wv.heap.size = g := ⟨_, rfl⟩
    simp only [hgb] at g0 g1 g2 ⊢
    clear hh hwb hgb d0 d1 d2 x1 x2
    by_cases y0 : 0 ≤ se
    rotate_left
    · have HF : Hid (q = false) := Lib.hid (by rw [← HQ.out]; cases hc : hasS ⟨se, sl, sh⟩ e x with | false => rfl | true => have h_ := hasS_iff.1 hc; dsimp only at h_; omega)
      go_wp2
      go_roundg (k1 - 1)
      case measure => omega
      case rel =>
        refine ⟨i + 1, by omega, by omega, by go_num, Lib.hid fun j s hj hs => ?_, HBN⟩
        by_cases hji : j = i
        · subst hji; rw [HX.out] at hs; cases hs; rw [HQ.out, HF.out]
        · exact HNO.out j s (by omega) hs
    by_cases y1 : 0 ≤ sl
    rotate_left
    · have HF : Hid (q = false) := Lib.hid (by rw [← HQ.out]; cases hc : hasS ⟨se, sl, sh⟩ e x with | false => rfl | true => have h_ := hasS_iff.1 hc; dsimp only at h_; omega)
      go_wp2
      go_roundg (k1 - 1)
      case measure => omega
      case rel =>
        refine ⟨i + 1, by omega, by omega, by go_num, Lib.hid fun j s hj hs => ?_, HBN⟩
        by_cases hji : j = i
        · subst hji; rw [HX.out] at hs; cases hs; rw [HQ.out, HF.out]
        · exact HNO.out j s (by omega) hs
    by_cases y2 : sh ≤ 1000000
    rotate_left
    · have HF : Hid (q = false) := Lib.hid (by rw [← HQ.out]; cases hc : hasS ⟨se, sl, sh⟩ e x with | false => rfl | true => have h_ := hasS_iff.1 hc; dsimp only at h_; omega)
      go_wp2
      go_roundg (k1 - 1)
      case measure => omega
      case rel =>
        refine ⟨i + 1, by omega, by omega, by go_num, Lib.hid fun j s hj hs => ?_, HBN⟩
        by_cases hji : j = i
        · subst hji; rw [HX.out] at hs; cases hs; rw [HQ.out, HF.out]
        · exact HNO.out j s (by omega) hs
    by_cases y3 : se = e
    rotate_left
    · have HF : Hid (q = false) := Lib.hid (by rw [← HQ.out]; cases hc : hasS ⟨se, sl, sh⟩ e x with | false => rfl | true => have h_ := hasS_iff.1 hc; dsimp only at h_; omega)
      have z3 : (se == e) = false := by simp [y3]
      go_wp2
      go_roundg (k1 - 1)
      case measure => omega
      case rel =>
        refine ⟨i + 1, by omega, by omega, by go_num, Lib.hid fun j s hj hs => ?_, HBN⟩
        by_cases hji : j = i
        · subst hji; rw [HX.out] at hs; cases hs; rw [HQ.out, HF.out]
        · exact HNO.out j s (by omega) hs
    subst y3
    by_cases y4 : sl ≤ x
    rotate_left
    · have HF : Hid (q = false) := Lib.hid (by rw [← HQ.out]; cases hc : hasS ⟨se, sl, sh⟩ se x with | false => rfl | true => have h_ := hasS_iff.1 hc; dsimp only at h_; omega)
      go_wp2
      go_roundg (k1 - 1)
      case measure => omega
      case rel =>
        refine ⟨i + 1, by omega, by omega, by go_num, Lib.hid fun j s hj hs => ?_, HBN⟩
        by_cases hji : j = i
        · subst hji; rw [HX.out] at hs; cases hs; rw [HQ.out, HF.out]
        · exact HNO.out j s (by omega) hs
    by_cases y5 : x < sh
    rotate_left
    · have HF : Hid (q = false) := Lib.hid (by rw [← HQ.out]; cases hc : hasS ⟨se, sl, sh⟩ se x with | false => rfl | true => have h_ := hasS_iff.1 hc; dsimp only at h_; omega)
      go_wp2
      go_roundg (k1 - 1)
      case measure => omega
      case rel =>
        refine ⟨i + 1, by omega, by omega, by go_num, Lib.hid fun j s hj hs => ?_, HBN⟩
        by_cases hji : j = i
        · subst hji; rw [HX.out] at hs; cases hs; rw [HQ.out, HF.out]
        · exact HNO.out j s (by omega) hs
    have HF : Hid (R = true) := Lib.hid (by rw [← HR.out]; exact hasL_iff.2 ⟨_, List.mem_of_getElem? HX.out, hasS_iff.2 ⟨y0, y1, y2, rfl, y4, y5⟩⟩)
    go_wp2
    go_ret
    exact ⟨by rw [HF.out]; rfl, HBN.out⟩

set_option maxRecDepth 100000 in
set_option maxHeartbeats 8000000 in
theorem rswant_any (k : Kp3) (x y : Bool) (w : World) :
    Calls Tryz.prog 97 #[.agg #[.bool k.one, .bool k.other, .bool k.common], .bool x, .bool y] w fun r w' => r = .returned (.bool (wantB k x y)) ∧ Below w.heap.size w w' := by
  obtain ⟨wa, hwa⟩ : ∃ wa, w.alloc (.cells #[.bool k.one, .bool k.other, .bool k.common] 104) = wa := ⟨_, rfl⟩
  have hbwa : Below w.heap.size w wa := by rw [← hwa]; exact (Below.refl _ _).alloc (Nat.le_refl _) _
  have h0 : Has wa (w.heap.size) 104 #[.bool k.one, .bool k.other, .bool k.common] := by rw [← hwa]; exact (Has.made _ _ _)
  have HWA := Lib.hid hwa; have HBWA := Lib.hid hbwa
  have c0 : wa.cell? ⟨w.heap.size, 0, none⟩ = some (.bool k.one) := h0.cell 0
  have c1 : wa.cell? ⟨w.heap.size, 1, none⟩ = some (.bool k.other) := h0.cell 1
  have c2 : wa.cell? ⟨w.heap.size, 2, none⟩ = some (.bool k.common) := h0.cell 2
  clear hwa hbwa h0
  obtain ⟨a, b, c⟩ := k
  dsimp only at *
  cases a <;> cases b <;> cases c <;> cases x <;> cases y
  all_goals
    go_enter Tryz.func97, Tryz.ntmps97
    go_upto_region 1 with fail
    rw [HWA.out]
    go_wp2
    go_ret
    exact ⟨rfl, HBWA.out⟩

set_option maxRecDepth 100000 in
set_option maxHeartbeats 8000000 in
theorem rswith_any (l : List Int) (x : Int) (A : Option Addr) (n c : Nat) (w : World) (hs : SlO inC 1 w A n c l) (hn : n ≤ 100000) :
    Calls Tryz.prog 95 #[.slice A n c, .int .i64 x] w fun r w' => ∃ B d, r = .returned (.slice B (insL x l).length d) ∧ SlO inC 1 w' B (insL x l).length d (insL x l) ∧ Below w.heap.size w w' := by
  have HL := Lib.hid hs.1
  have HS := Lib.hid (fun W (hW : Below w.heap.size w W) => hs.under hW)
  obtain ⟨R, hR⟩ : ∃ R, insL x l = R := ⟨_, rfl⟩
  have HR := Lib.hid hR
  rw [hR]
  clear hR hs
  go_enter Tryz.func95, Tryz.ntmps95
  go_wp2
  go_loopg [5, 6, 7] n (fun kk v5 v6 v7 wl => ∃ (i k : Nat) (A2 : Option Addr) (c2 : Nat) (b : Bool) (q : List Int), i ≤ n ∧ n - i ≤ kk ∧ v7 = .int .i64 i ∧ v6 = .bool b ∧ v5 = .slice A2 k c2 ∧ Hid (k ≤ i + 1 ∧ (b = false → k ≤ i)) ∧ Hid (OwR inC 1 3 w.heap.size wl A2 k c2 q) ∧ Hid (R = q ++ (if b = true then l.drop i else insL x (l.drop i))) ∧ Hid (Below w.heap.size w wl))
  case atStart => exact ⟨0, 0, none, 0, false, [], by omega, by omega, rfl, rfl, rfl, Lib.hid ⟨by omega, fun _ => by omega⟩, Lib.hid (OwR.nil _ _ _ _ _), Lib.hid (by rw [← HR.out]; simp), Lib.hid (Below.refl _ _)⟩
  case round =>
    obtain ⟨i, k, A2, c2, b, q, hi, hik, rfl, rfl, rfl, HK, HO, HQ, HB⟩ := hrel
    obtain ⟨k1, hk1⟩ : ∃ k1, k1 = gk := ⟨_, rfl⟩
    subst hk1
    obtain ⟨wv, hwv⟩ : ∃ wv, wv = wr := ⟨_, rfl⟩
    subst hwv
    by_cases hlt : i < n
    rotate_left
    · obtain rfl : i = n := by omega
      have x1 : ¬ (i : Int) < i := by omega
      have hd : l.drop i = [] := List.drop_of_length_le (by rw [HL.out]; exact Nat.le_refl _)
      rw [hd] at HQ
      have HLN := Lib.hid HO.out.2
      clear hd hik hlt
      cases b with
      | true =>
        have HF : Hid (R = q) := Lib.hid (by rw [HQ.out]; simp)
        go_wp2
        go_ret
        rw [HF.out, HLN.out]
        exact ⟨A2, c2, rfl, HO.out.sl, HB.out⟩
      | false =>
        have HF : Hid (R = q ++ [x]) := Lib.hid (by rw [HQ.out]; simp [insL])
        obtain ⟨hN, hO, hC, h1, hBD⟩ := pushR (f := inC) (k := 1) (e := 3) 8 x #[.int .i64 x] rfl rfl (one_in15 _) HO.out HB.out.size (by have := HK.out.1; omega) (by omega)
        have hbw : Below w.heap.size w (wv.alloc (.cells #[.int .i64 x] 3)) := HB.out.alloc HB.out.size _
        have HBW := Lib.hid hbw
        have HLN := Lib.hid HO.out.2
        clear hbw
        go_wp2_with (with_reducible refine wpList_push (o := ⟨some 46, _, _, _, _, _⟩) rfl (.tmp 43) (.tmp 45) 22 rfl w.heap.size 3 (.int .i64 0) 1 8 Tryz.underlying22 info_int15 ?hz20 (by decide) A2 (k) c2 ((q).flatMap inC) ?hs20 hO ⟨wv.heap.size, 0, none⟩ 1 1 (inC x) ?hx20 hN hC h1 hBD ?next20)
        all_goals try rfl
        case next20 =>
          intro A20 c20 v20 ho hg
          have HO := Lib.hid (OwR.snoc HLN.out ho.out)
          have HB := Lib.hid (below_own HBW.out HBW.out.size hO.out (Nat.le_refl _) rfl hg.out)
          clear ho hg hN hO hC h1 hBD HBW HLN
          have HLN := Lib.hid HO.out.2
          go_wp2
          go_ret
          rw [HF.out, HLN.out]
          exact ⟨A20, c20, rfl, HO.out.sl, HB.out⟩
    obtain ⟨y, hy⟩ : ∃ y, l[i]? = some y := ⟨_, List.getElem?_eq_getElem (by rw [HL.out]; omega)⟩
    obtain ⟨bk, off, rfl, d0⟩ := (HS.out wv HB.out).num hy
    have hd : l.drop i = y :: l.drop (i + 1) := by obtain ⟨h1, e⟩ := List.getElem?_eq_some_iff.1 hy; rw [List.drop_eq_getElem_cons h1, e]
    have HD := Lib.hid hd
    have HY := Lib.hid hy
    clear hd hy
    have x1 : (i : Int) < n := by omega
    have x2 : (0 : Int) ≤ i := by omega
    by_cases z0 : y = x
    · subst z0
      have z1 : (y == y) = true := by simp
      have HQ2 : Hid (R = (q ++ [y]) ++ l.drop (i + 1)) := Lib.hid (by rw [HQ.out, HD.out]; cases b <;> simp [insL])
      obtain ⟨hN, hO, hC, h1, hBD⟩ := pushR (f := inC) (k := 1) (e := 3) 8 y #[.int .i64 y] rfl rfl (one_in15 _) HO.out HB.out.size (by have := HK.out.1; omega) (by omega)
      have hbw : Below w.heap.size w (wv.alloc (.cells #[.int .i64 y] 3)) := HB.out.alloc HB.out.size _
      have HBW := Lib.hid hbw
      have HLN := Lib.hid HO.out.2
      clear hbw
      go_upto_region 11 with fail
      go_wp2_with (with_reducible refine wpList_push (o := ⟨some 40, _, _, _, _, _⟩) rfl (.tmp 34) (.tmp 39) 22 rfl w.heap.size 3 (.int .i64 0) 1 8 Tryz.underlying22 info_int15 ?hz21 (by decide) A2 (k) c2 ((q).flatMap inC) ?hs21 hO ⟨wv.heap.size, 0, none⟩ 1 1 (inC y) ?hx21 hN hC h1 hBD ?next21)
      all_goals try rfl
      case next21 =>
        intro A21 c21 v21 ho hg
        have HO := Lib.hid (OwR.snoc HLN.out ho.out)
        have HB := Lib.hid (below_own HBW.out HBW.out.size hO.out (Nat.le_refl _) rfl hg.out)
        clear ho hg hN hO hC h1 hBD HBW HLN
        go_wp2
        go_roundg (k1 - 1)
        case measure => omega
        case rel =>
          exact ⟨i + 1, _, A21, c21, true, _, by omega, by omega, by go_num, rfl, rfl, Lib.hid ⟨by have := HK.out.1; omega, fun h_ => by cases h_⟩, HO, Lib.hid (by rw [if_pos rfl]; exact HQ2.out), HB⟩
    have z1 : (y == x) = false := by simp [z0]
    cases b with
    | true =>
      have HQ2 : Hid (R = (q ++ [y]) ++ l.drop (i + 1)) := Lib.hid (by rw [HQ.out, HD.out]; simp)
      obtain ⟨hN, hO, hC, h1, hBD⟩ := pushR (f := inC) (k := 1) (e := 3) 8 y #[.int .i64 y] rfl rfl (one_in15 _) HO.out HB.out.size (by have := HK.out.1; omega) (by omega)
      have hbw : Below w.heap.size w (wv.alloc (.cells #[.int .i64 y] 3)) := HB.out.alloc HB.out.size _
      have HBW := Lib.hid hbw
      have HLN := Lib.hid HO.out.2
      clear hbw
      go_upto_region 11 with fail
      go_wp2_with (with_reducible refine wpList_push (o := ⟨some 40, _, _, _, _, _⟩) rfl (.tmp 34) (.tmp 39) 22 rfl w.heap.size 3 (.int .i64 0) 1 8 Tryz.underlying22 info_int15 ?hz22 (by decide) A2 (k) c2 ((q).flatMap inC) ?hs22 hO ⟨wv.heap.size, 0, none⟩ 1 1 (inC y) ?hx22 hN hC h1 hBD ?next22)
      all_goals try rfl
      case next22 =>
        intro A22 c22 v22 ho hg
        have HO := Lib.hid (OwR.snoc HLN.out ho.out)
        have HB := Lib.hid (below_own HBW.out HBW.out.size hO.out (Nat.le_refl _) rfl hg.out)
        clear ho hg hN hO hC h1 hBD HBW HLN
        go_wp2
        go_roundg (k1 - 1)
        case measure => omega
        case rel =>
          exact ⟨i + 1, _, A22, c22, true, _, by omega, by omega, by go_num, rfl, rfl, Lib.hid ⟨by have := HK.out.1; omega, fun h_ => by cases h_⟩, HO, Lib.hid (by rw [if_pos rfl]; exact HQ2.out), HB⟩
    | false =>
      by_cases z2 : x < y
      rotate_left
      · have HQ2 : Hid (R = (q ++ [y]) ++ insL x (l.drop (i + 1))) := Lib.hid (by rw [HQ.out, HD.out]; simp [insL, z0, z2])
        obtain ⟨hN, hO, hC, h1, hBD⟩ := pushR (f := inC) (k := 1) (e := 3) 8 y #[.int .i64 y] rfl rfl (one_in15 _) HO.out HB.out.size (by have := HK.out.1; omega) (by omega)
        have hbw : Below w.heap.size w (wv.alloc (.cells #[.int .i64 y] 3)) := HB.out.alloc HB.out.size _
        have HBW := Lib.hid hbw
        have HLN := Lib.hid HO.out.2
        clear hbw
        go_upto_region 11 with fail
        go_wp2_with (with_reducible refine wpList_push (o := ⟨some 40, _, _, _, _, _⟩) rfl (.tmp 34) (.tmp 39) 22 rfl w.heap.size 3 (.int .i64 0) 1 8 Tryz.underlying22 info_int15 ?hz23 (by decide) A2 (k) c2 ((q).flatMap inC) ?hs23 hO ⟨wv.heap.size, 0, none⟩ 1 1 (inC y) ?hx23 hN hC h1 hBD ?next23)
        all_goals try rfl
        case next23 =>
          intro A23 c23 v23 ho hg
          have HO := Lib.hid (OwR.snoc HLN.out ho.out)
          have HB := Lib.hid (below_own HBW.out HBW.out.size hO.out (Nat.le_refl _) rfl hg.out)
          clear ho hg hN hO hC h1 hBD HBW HLN
          go_wp2
          go_roundg (k1 - 1)
          case measure => omega
          case rel =>
            exact ⟨i + 1, _, A23, c23, false, _, by omega, by omega, by go_num, rfl, rfl, Lib.hid ⟨by have := HK.out.1; omega, fun _ => by have := HK.out.2 (by first | rfl | trivial); omega⟩, HO, Lib.hid (by rw [if_neg (by decide)]; exact HQ2.out), HB⟩
      have HQ2 : Hid (R = ((q ++ [x]) ++ [y]) ++ l.drop (i + 1)) := Lib.hid (by rw [HQ.out, HD.out]; simp [insL, z0, z2])
      skip
      obtain ⟨hN, hO, hC, h1, hBD⟩ := pushR (f := inC) (k := 1) (e := 3) 8 x #[.int .i64 x] rfl rfl (one_in15 _) HO.out HB.out.size (by have := HK.out.1; omega) (by omega)
      have hbw : Below w.heap.size w (wv.alloc (.cells #[.int .i64 x] 3)) := HB.out.alloc HB.out.size _
      have HBW := Lib.hid hbw
      have HLN := Lib.hid HO.out.2
      clear hbw
      go_wp2_with (with_reducible refine wpList_push (o := ⟨some 33, _, _, _, _, _⟩) rfl (.tmp 30) (.tmp 32) 22 rfl w.heap.size 3 (.int .i64 0) 1 8 Tryz.underlying22 info_int15 ?hz24 (by decide) A2 (k) c2 ((q).flatMap inC) ?hs24 hO ⟨wv.heap.size, 0, none⟩ 1 1 (inC x) ?hx24 hN hC h1 hBD ?next24)
      all_goals try rfl
      case next24 =>
        intro A24 c24 v24 ho hg
        have HO := Lib.hid (OwR.snoc HLN.out ho.out)
        have HB := Lib.hid (below_own HBW.out HBW.out.size hO.out (Nat.le_refl _) rfl hg.out)
        clear ho hg hN hO hC h1 hBD HBW HLN
        obtain ⟨b_, o_, e_, d1⟩ := (HS.out v24 HB.out).num HY.out
        injection e_ with e_
        injection e_ with e1_ e2_ _
        subst e1_ e2_
        clear d0
        obtain ⟨k2, hk2⟩ : ∃ k2, k + 1 = k2 := ⟨_, rfl⟩
        obtain ⟨L2, hL2⟩ : ∃ L2, q ++ [x] = L2 := ⟨_, rfl⟩
        rw [hk2, hL2] at HO
        rw [hL2] at HQ2
        simp only [hk2]
        have HKB := Lib.hid (show k2 ≤ i + 1 ∧ True from ⟨by have := HK.out.2 (by first | rfl | trivial); omega, trivial⟩)
        clear hk2 hL2
        obtain ⟨hN, hO, hC, h1, hBD⟩ := pushR (f := inC) (k := 1) (e := 3) 8 y #[.int .i64 y] rfl rfl (one_in15 _) HO.out HB.out.size (by have := HKB.out.1; omega) (by omega)
        have hbw : Below w.heap.size w (v24.alloc (.cells #[.int .i64 y] 3)) := HB.out.alloc HB.out.size _
        have HBW := Lib.hid hbw
        have HLN := Lib.hid HO.out.2
        clear hbw
        go_upto_region 11 with fail
        go_wp2_with (with_reducible refine wpList_push (o := ⟨some 40, _, _, _, _, _⟩) rfl (.tmp 34) (.tmp 39) 22 rfl w.heap.size 3 (.int .i64 0) 1 8 Tryz.underlying22 info_int15 ?hz25 (by decide) A24 (k2) c24 ((L2).flatMap inC) ?hs25 hO ⟨v24.heap.size, 0, none⟩ 1 1 (inC y) ?hx25 hN hC h1 hBD ?next25)
        all_goals try rfl
        case next25 =>
          intro A25 c25 v25 ho hg
          have HO := Lib.hid (OwR.snoc HLN.out ho.out)
          have HB := Lib.hid (below_own HBW.out HBW.out.size hO.out (Nat.le_refl _) rfl hg.out)
          clear ho hg hN hO hC h1 hBD HBW HLN
          go_wp2
          go_roundg (k1 - 1)
          case measure => omega
          case rel =>
            exact ⟨i + 1, _, A25, c25, true, _, by omega, by omega, by go_num, rfl, rfl, Lib.hid ⟨by have := HKB.out.1; omega, fun h_ => by cases h_⟩, HO, Lib.hid (by rw [if_pos rfl]; exact HQ2.out), HB⟩

set_option maxRecDepth 100000 in
set_option maxHeartbeats 8000000 in
theorem rssame_any (l m : List Sn3) (A B : Option Addr) (n c p d : Nat) (w : World) (hl : SlO snC 3 w A n c l) (hm : SlO snC 3 w B p d m) (hn : n ≤ 1048576) (hp : p ≤ 1048576) :
    Calls Tryz.prog 14 #[.slice A n c, .slice B p d] w fun r w' => r = .returned (.bool (sameN l m)) ∧ Below w.heap.size w w' := by
  have HL := Lib.hid hl
  have HM := Lib.hid hm
  have HQ := Lib.hid (fun x y => neq_sn15 x y)
  obtain ⟨R, hR⟩ : ∃ R, sameN l m = R := ⟨_, rfl⟩
  have HR := Lib.hid hR
  rw [hR]
  clear hR hl hm
  by_cases hnp : n = p
  rotate_left
  · have HF : Hid (R = false) := Lib.hid (by
      rw [← HR.out]
      cases hq : sameN l m with
      | false => rfl
      | true => exact absurd (by rw [← HL.out.1, (sameN_iff l m).1 hq, HM.out.1]) hnp)
    have z0 : ((n : Int) != p) = true := by simp; omega
    have z1 : ((n : Int) == p) = false := by simp; omega
    have z2 : ¬ (n : Int) = p := by omega
    clear hnp
    go_enter Tryz.func14, Tryz.ntmps14
    go_wp2
    go_ret
    exact ⟨by rw [HF.out]; rfl, Below.refl _ _⟩
  subst hnp
  have z0 : ((n : Int) != n) = false := by simp
  go_enter Tryz.func14, Tryz.ntmps14
  go_wp2
  go_loopg [5] n (fun kk v5 wl => ∃ i j : Nat, i ≤ n ∧ n - i ≤ kk ∧ v5 = .int .i64 i ∧ Hid (∀ j x y, j < i → l[j]? = some x → m[j]? = some y → x = y) ∧ wl = w.drewN j)
  case atStart => exact ⟨0, 0, by omega, by omega, rfl, Lib.hid fun j x y h => absurd h (by omega), rfl⟩
  case round =>
    obtain ⟨i, nq, hi, hik, rfl, HNO, rfl⟩ := hrel
    by_cases hlt : i < n
    rotate_left
    · have x1 : ¬ (i : Int) < n := by omega
      have HF : Hid (R = true) := Lib.hid (by
        rw [← HR.out, sameN_iff]
        refine List.ext_getElem? fun j => ?_
        by_cases hj : j < n
        · have h1 := List.getElem?_eq_getElem (l := l) (i := j) (by rw [HL.out.1]; exact hj)
          have h2 := List.getElem?_eq_getElem (l := m) (i := j) (by rw [HM.out.1]; exact hj)
          rw [h1, h2, HNO.out j _ _ (by omega) h1 h2]
        · rw [List.getElem?_eq_none (by rw [HL.out.1]; omega), List.getElem?_eq_none (by rw [HM.out.1]; omega)])
      go_wp2
      go_ret
      exact ⟨by rw [HF.out]; rfl, below_draws (Below.refl _ _) _⟩
    obtain ⟨x, hx⟩ : ∃ x, l[i]? = some x := ⟨_, List.getElem?_eq_getElem (by rw [HL.out.1]; omega)⟩
    obtain ⟨y, hy⟩ : ∃ y, m[i]? = some y := ⟨_, List.getElem?_eq_getElem (by rw [HM.out.1]; omega)⟩
    obtain ⟨bk, off, rfl, d0, d1, d2⟩ := HL.out.span hx
    obtain ⟨bm, om, rfl, f0, f1, f2⟩ := HM.out.span hy
    have HX := Lib.hid hx; have HY := Lib.hid hy
    clear hx hy
    have x1 : (i : Int) < n := by omega
    have x2 : (0 : Int) ≤ i := by omega
    have q1 := HQ.out x y
    generalize hb : eqN x y = b at *
    have HBE := Lib.hid hb
    clear hb
    unfold snA at q1
    go_upto_region 6 with fail
    cases b with
    | false =>
      have HF : Hid (R = false) := Lib.hid (by
        rw [← HR.out]
        cases hq : sameN l m with
        | false => rfl
        | true =>
          have h1 := (sameN_iff l m).1 hq
          have h2 := HX.out
          rw [h1, HY.out] at h2
          injection h2 with h2
          have h3 := HBE.out
          rw [h2, (eqN_iff x x).2 rfl] at h3
          cases h3)
      go_quiet (fail)
      go_wp2
      go_ret
      exact ⟨by rw [HF.out]; rfl, by first | exact below_draws (Below.refl _ _) _ | (rw [World.drewN_drewN]; exact below_draws (Below.refl _ _) _)⟩
    | true =>
      have HE : Hid (x = y) := Lib.hid ((eqN_iff x y).1 HBE.out)
      go_quiet (fail)
      go_wp2
      go_roundg (gk - 1)
      case measure => omega
      case rel =>
        refine ⟨i + 1, _, by omega, by omega, by go_num, Lib.hid fun j x' y' hj hx hy => ?_, by first | rfl | rw [World.drewN_drewN]⟩
        by_cases hji : j = i
        · subst hji; rw [HX.out] at hx; rw [HY.out] at hy; injection hx with hx; injection hy with hy; rw [← hx, ← hy]; exact HE.out
        · exact HNO.out j x' y' (by omega) hx hy

end Go.Proofs.YteioefgckigbcaaGreat
