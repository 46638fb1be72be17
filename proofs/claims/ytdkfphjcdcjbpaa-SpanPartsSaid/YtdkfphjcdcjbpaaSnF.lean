/-
  span as landed: Has; Norm, Union, Minus, Both, Within, Meets.
-/
import Derived.Test.YtdkfphjcdcjbpaaSnE
import Derived.Test.YtdkfphjcdcjbpaaToB
import Derived.BigQuiet
import Derived.IntWalk
namespace Go.Proofs.Ytdkfphjcdcjbpaa
open Go.RowKit
open Go.Great

theorem hasV (s : Sn3) (e x : Int) : (validB s && ((s.edge == e) && (decide (s.lo ≤ x) && decide (x < s.hi)))) = hasS s e x := by
  rw [Bool.eq_iff_iff, hasS_iff]
  simp only [Bool.and_eq_true, decide_eq_true_eq, valid_iff, beq_iff_eq]
  unfold okN
  omega

set_option maxRecDepth 100000 in
set_option maxHeartbeats 8000000 in
theorem oshc_any (s : Sn3) (g : Nat) (e x : Int) (w : World) (h0 : Has w g 3 #[.int .i64 e]) (h1 : Has w (g + 1) 3 #[.int .i64 x]) :
    Calls Try.prog 43 #[.agg (snA s), .pointer (some ⟨g, 0, none⟩), .pointer (some ⟨g + 1, 0, none⟩)] w fun r w' => r = .returned (.bool (hasS s e x)) ∧ Below w.heap.size w w' := by
  have hE := h0; have hX := h1
  clear h0 h1
  obtain ⟨wa, hwa⟩ : ∃ wa, w.alloc (.cells (snA s) 41) = wa := ⟨_, rfl⟩
  have hbwa : Below w.heap.size w wa := by rw [← hwa]; exact (Below.refl _ _).alloc (Nat.le_refl _) _
  have h0 : Has wa (w.heap.size) 41 (snA s) := by rw [← hwa]; exact (Has.made _ _ _)
  have HWA := Lib.hid hwa; have HBWA := Lib.hid hbwa
  have HA := Lib.hid (hE.under hbwa hE.lt)
  have HB := Lib.hid (hX.under hbwa hX.lt)
  have HC := Lib.hid h0
  have HV := Lib.hid (fun W => osis_any s W)
  rw [← hasV]
  clear hwa hbwa h0 hE hX
  generalize validB s = v at *
  obtain ⟨se, sl, sh⟩ := s
  unfold snA at *
  dsimp only at *
  cases v with
  | false =>
    rw [Bool.false_and]
    go_enter Try.func43, Try.ntmps43
    go_upto_region 1 with fail
    rw [HWA.out]
    clear HWA
    go_wp2_with (with_reducible refine wpList_load_row (o := ⟨some 5, _, _, _, _, _⟩) rfl 41 _ rfl (w.heap.size) rfl 41 #[.int .i64 se, .int .i64 sl, .int .i64 sh] (0, 0) _ (HC.out).raw11 Try.underlying41 rfl (by kernel_rfl) ?_)
    refine (HV.out wa).mono ?_
    rintro e_ w1 ⟨rfl, hb1⟩
    have HB1 := Lib.hid (HBWA.out.trans (hb1.mono HBWA.out.size))
    have hC1 := HC.out.under hb1 HC.out.lt
    have hA1 := HA.out.under hb1 HA.out.lt
    have hB1 := HB.out.under hb1 HB.out.lt
    have c0 : w1.cell? ⟨w.heap.size, 0, none⟩ = some (.int .i64 se) := hC1.cell 0
    have c1 : w1.cell? ⟨w.heap.size, 1, none⟩ = some (.int .i64 sl) := hC1.cell 1
    have c2 : w1.cell? ⟨w.heap.size, 2, none⟩ = some (.int .i64 sh) := hC1.cell 2
    have ca : w1.cell? ⟨g, 0, none⟩ = some (.int .i64 e) := hA1.cell 0
    have cb : w1.cell? ⟨g + 1, 0, none⟩ = some (.int .i64 x) := hB1.cell 0
    clear hb1 hC1 hA1 hB1 HA HB HC HV HBWA
    go_wp2
    go_ret
    exact ⟨by first | rfl | simp_all, HB1.out⟩
  | true =>
    rw [Bool.true_and]
    by_cases y1 : se = e
    rotate_left
    · have q1 : (se == e) = false := by simp [y1]
      rw [q1, Bool.false_and]
      go_enter Try.func43, Try.ntmps43
      go_upto_region 1 with fail
      rw [HWA.out]
      clear HWA
      go_wp2_with (with_reducible refine wpList_load_row (o := ⟨some 5, _, _, _, _, _⟩) rfl 41 _ rfl (w.heap.size) rfl 41 #[.int .i64 se, .int .i64 sl, .int .i64 sh] (0, 0) _ (HC.out).raw11 Try.underlying41 rfl (by kernel_rfl) ?_)
      refine (HV.out wa).mono ?_
      rintro e_ w1 ⟨rfl, hb1⟩
      have HB1 := Lib.hid (HBWA.out.trans (hb1.mono HBWA.out.size))
      have hC1 := HC.out.under hb1 HC.out.lt
      have hA1 := HA.out.under hb1 HA.out.lt
      have hB1 := HB.out.under hb1 HB.out.lt
      have c0 : w1.cell? ⟨w.heap.size, 0, none⟩ = some (.int .i64 se) := hC1.cell 0
      have c1 : w1.cell? ⟨w.heap.size, 1, none⟩ = some (.int .i64 sl) := hC1.cell 1
      have c2 : w1.cell? ⟨w.heap.size, 2, none⟩ = some (.int .i64 sh) := hC1.cell 2
      have ca : w1.cell? ⟨g, 0, none⟩ = some (.int .i64 e) := hA1.cell 0
      have cb : w1.cell? ⟨g + 1, 0, none⟩ = some (.int .i64 x) := hB1.cell 0
      clear hb1 hC1 hA1 hB1 HA HB HC HV HBWA
      go_wp2
      go_ret
      exact ⟨by first | rfl | simp_all, HB1.out⟩
    subst y1
    have q1 : (se == se) = true := by simp
    rw [q1, Bool.true_and]
    by_cases y2 : sl ≤ x
    rotate_left
    · rw [decide_eq_false y2, Bool.false_and]
      go_enter Try.func43, Try.ntmps43
      go_upto_region 1 with fail
      rw [HWA.out]
      clear HWA
      go_wp2_with (with_reducible refine wpList_load_row (o := ⟨some 5, _, _, _, _, _⟩) rfl 41 _ rfl (w.heap.size) rfl 41 #[.int .i64 se, .int .i64 sl, .int .i64 sh] (0, 0) _ (HC.out).raw11 Try.underlying41 rfl (by kernel_rfl) ?_)
      refine (HV.out wa).mono ?_
      rintro e_ w1 ⟨rfl, hb1⟩
      have HB1 := Lib.hid (HBWA.out.trans (hb1.mono HBWA.out.size))
      have hC1 := HC.out.under hb1 HC.out.lt
      have hA1 := HA.out.under hb1 HA.out.lt
      have hB1 := HB.out.under hb1 HB.out.lt
      have c0 : w1.cell? ⟨w.heap.size, 0, none⟩ = some (.int .i64 se) := hC1.cell 0
      have c1 : w1.cell? ⟨w.heap.size, 1, none⟩ = some (.int .i64 sl) := hC1.cell 1
      have c2 : w1.cell? ⟨w.heap.size, 2, none⟩ = some (.int .i64 sh) := hC1.cell 2
      have ca : w1.cell? ⟨g, 0, none⟩ = some (.int .i64 se) := hA1.cell 0
      have cb : w1.cell? ⟨g + 1, 0, none⟩ = some (.int .i64 x) := hB1.cell 0
      clear hb1 hC1 hA1 hB1 HA HB HC HV HBWA
      go_wp2
      go_ret
      exact ⟨by first | rfl | simp_all, HB1.out⟩
    rw [decide_eq_true y2, Bool.true_and]
    by_cases y3 : x < sh
    rotate_left
    · rw [decide_eq_false y3]
      go_enter Try.func43, Try.ntmps43
      go_upto_region 1 with fail
      rw [HWA.out]
      clear HWA
      go_wp2_with (with_reducible refine wpList_load_row (o := ⟨some 5, _, _, _, _, _⟩) rfl 41 _ rfl (w.heap.size) rfl 41 #[.int .i64 se, .int .i64 sl, .int .i64 sh] (0, 0) _ (HC.out).raw11 Try.underlying41 rfl (by kernel_rfl) ?_)
      refine (HV.out wa).mono ?_
      rintro e_ w1 ⟨rfl, hb1⟩
      have HB1 := Lib.hid (HBWA.out.trans (hb1.mono HBWA.out.size))
      have hC1 := HC.out.under hb1 HC.out.lt
      have hA1 := HA.out.under hb1 HA.out.lt
      have hB1 := HB.out.under hb1 HB.out.lt
      have c0 : w1.cell? ⟨w.heap.size, 0, none⟩ = some (.int .i64 se) := hC1.cell 0
      have c1 : w1.cell? ⟨w.heap.size, 1, none⟩ = some (.int .i64 sl) := hC1.cell 1
      have c2 : w1.cell? ⟨w.heap.size, 2, none⟩ = some (.int .i64 sh) := hC1.cell 2
      have ca : w1.cell? ⟨g, 0, none⟩ = some (.int .i64 se) := hA1.cell 0
      have cb : w1.cell? ⟨g + 1, 0, none⟩ = some (.int .i64 x) := hB1.cell 0
      clear hb1 hC1 hA1 hB1 HA HB HC HV HBWA
      go_wp2
      go_ret
      exact ⟨by first | rfl | simp_all, HB1.out⟩
    rw [decide_eq_true y3]
    go_enter Try.func43, Try.ntmps43
    go_upto_region 1 with fail
    rw [HWA.out]
    clear HWA
    go_wp2_with (with_reducible refine wpList_load_row (o := ⟨some 5, _, _, _, _, _⟩) rfl 41 _ rfl (w.heap.size) rfl 41 #[.int .i64 se, .int .i64 sl, .int .i64 sh] (0, 0) _ (HC.out).raw11 Try.underlying41 rfl (by kernel_rfl) ?_)
    refine (HV.out wa).mono ?_
    rintro e_ w1 ⟨rfl, hb1⟩
    have HB1 := Lib.hid (HBWA.out.trans (hb1.mono HBWA.out.size))
    have hC1 := HC.out.under hb1 HC.out.lt
    have hA1 := HA.out.under hb1 HA.out.lt
    have hB1 := HB.out.under hb1 HB.out.lt
    have c0 : w1.cell? ⟨w.heap.size, 0, none⟩ = some (.int .i64 se) := hC1.cell 0
    have c1 : w1.cell? ⟨w.heap.size, 1, none⟩ = some (.int .i64 sl) := hC1.cell 1
    have c2 : w1.cell? ⟨w.heap.size, 2, none⟩ = some (.int .i64 sh) := hC1.cell 2
    have ca : w1.cell? ⟨g, 0, none⟩ = some (.int .i64 se) := hA1.cell 0
    have cb : w1.cell? ⟨g + 1, 0, none⟩ = some (.int .i64 x) := hB1.cell 0
    clear hb1 hC1 hA1 hB1 HA HB HC HV HBWA
    go_wp2
    go_ret
    exact ⟨by first | rfl | simp_all, HB1.out⟩

set_option maxRecDepth 100000 in
set_option maxHeartbeats 8000000 in
theorem oix_sh (p : Sn3 → Bool) (l : List Sn3) (A : Option Addr) (n c : Nat) (g : Nat) (w : World) (hs : SlO snC 3 w A n c l) (hbig : n ≤ 1048576)
    (HE : Hid (∀ (x : Sn3) W, Below w.heap.size w W → Calls Try.prog 43 #[.agg (snA x), .pointer (some ⟨g, 0, none⟩), .pointer (some ⟨g + 1, 0, none⟩)] W fun e w' => e = .returned (.bool (p x)) ∧ Below W.heap.size W w')) :
    Calls Try.prog 60 #[.slice A n c, .func (.func 43) #[] #[.pointer (some ⟨g, 0, none⟩), .pointer (some ⟨g + 1, 0, none⟩)]] w fun e w' => e = .returned (.int .i64 (idxL p l)) ∧ Below w.heap.size w w' := by
  try unfold snA at HE
  have HN : Hid (l.length = n) := Lib.hid hs.len13
  have HW := Lib.hid hs
  clear hs
  have x0 : (0 : Int) ≤ n := by omega
  obtain ⟨R, hR⟩ : ∃ R, idxL p l = R := ⟨_, rfl⟩
  have HR := Lib.hid hR
  rw [hR]
  clear hR
  go_enter Try.func60, Try.ntmps60
  go_wp2
  go_loopg [8] n (fun kk v wl => ∃ j : Nat, j ≤ n ∧ n - j ≤ kk ∧ v = .int .i64 j ∧ Hid (∀ i x, i < j → l[i]? = some x → p x = false) ∧ Hid (Below w.heap.size w wl))
  case atStart => exact ⟨0, by omega, by omega, rfl, Lib.hid fun i x h => absurd h (by omega), Lib.hid (Below.refl _ _)⟩
  case round =>
    obtain ⟨j, hj, hjk, rfl, HNO, HBL⟩ := hrel
    by_cases hlt : j < n
    · obtain ⟨x, hx⟩ : ∃ x, l[j]? = some x := ⟨_, List.getElem?_eq_getElem (by rw [HN.out]; omega)⟩
      obtain ⟨bk, off, rfl, d0, d1, d2⟩ := (HW.out.under HBL.out).span hx
      have HX := Lib.hid hx
      have y0 : (0 : Int) ≤ j := by omega
      have y1 : (j : Int) < n := by omega
      have HC := Lib.hid (HE.out x wr HBL.out)
      clear hx
      generalize hb : p x = b at *
      have HBE := Lib.hid hb
      clear hb
      cases b with
      | true =>
        have HF : Hid (R = j) := Lib.hid (by rw [← HR.out]; exact idx_hit HX.out HBE.out HNO.out)
        go_upto_region 4 with fail
        go_wp2_with fail
        refine HC.out.mono ?_
        rintro e w1 ⟨rfl, hb1⟩
        have HB1 := Lib.hid (HBL.out.trans (hb1.mono HBL.out.size))
        clear hb1 d0 d1 d2 HBE HNO
        go_wp2
        go_ret
        exact ⟨by rw [HF.out]; rfl, HB1.out⟩
      | false =>
        go_upto_region 4 with fail
        go_wp2_with fail
        refine HC.out.mono ?_
        rintro e w1 ⟨rfl, hb1⟩
        have HB1 := Lib.hid (HBL.out.trans (hb1.mono HBL.out.size))
        have HN2 : Hid (∀ i y, i < j + 1 → l[i]? = some y → p y = false) := Lib.hid fun i y hi hy => by
          by_cases h : i = j
          · subst h; rw [HX.out] at hy; cases hy; exact HBE.out
          · exact HNO.out i y (by omega) hy
        clear hb1 d0 d1 d2 HBE HNO
        go_wp2
        go_roundg (gk - 1)
        case measure => omega
        case rel => exact ⟨j + 1, by omega, by omega, by go_num, HN2, HB1⟩
    · have y1 : ¬ (j : Int) < n := by omega
      have HF : Hid (R = -1) := Lib.hid (by rw [← HR.out]; exact idx_miss fun i y hi hy => HNO.out i y (by have := HN.out; omega) hy)
      go_wp2
      go_ret
      exact ⟨by rw [HF.out]; rfl, HBL.out⟩

set_option maxRecDepth 100000 in
set_option maxHeartbeats 8000000 in
theorem oct_sh (p : Sn3 → Bool) (l : List Sn3) (A : Option Addr) (n c : Nat) (g : Nat) (w : World) (hs : SlO snC 3 w A n c l) (hbig : n ≤ 1048576)
    (HE : Hid (∀ (x : Sn3) W, Below w.heap.size w W → Calls Try.prog 43 #[.agg (snA x), .pointer (some ⟨g, 0, none⟩), .pointer (some ⟨g + 1, 0, none⟩)] W fun e w' => e = .returned (.bool (p x)) ∧ Below W.heap.size W w')) :
    Calls Try.prog 42 #[.slice A n c, .func (.func 43) #[] #[.pointer (some ⟨g, 0, none⟩), .pointer (some ⟨g + 1, 0, none⟩)]] w fun e w' => e = .returned (.bool (l.any p)) ∧ Below w.heap.size w w' := by
  have H := Lib.hid (oix_sh p l A n c g w hs hbig HE)
  clear hs HE
  rw [← idx_nonneg]
  generalize idxL p l = R at *
  go_enter Try.func42, Try.ntmps42
  go_wp2_with fail
  refine H.out.mono ?_
  rintro e w1 ⟨rfl, hb1⟩
  have HB1 := Lib.hid hb1
  clear hb1 H
  go_wp2
  go_ret
  exact ⟨rfl, HB1.out⟩

set_option maxRecDepth 100000 in
set_option maxHeartbeats 8000000 in
theorem oix_nl (p : Int → Bool) (l : List Int) (A : Option Addr) (n c : Nat) (w : World) (hs : SlO inC 1 w A n c l) (hbig : n ≤ 1048576)
    (HE : Hid (∀ (x : Int) W, Below w.heap.size w W → Calls Try.prog 39 #[.int .i64 x] W fun e w' => e = .returned (.bool (p x)) ∧ Below W.heap.size W w')) :
    Calls Try.prog 57 #[.slice A n c, .func (.func 39) #[] #[]] w fun e w' => e = .returned (.int .i64 (idxL p l)) ∧ Below w.heap.size w w' := by
  have HN : Hid (l.length = n) := Lib.hid hs.len13
  have HW := Lib.hid hs
  clear hs
  have x0 : (0 : Int) ≤ n := by omega
  obtain ⟨R, hR⟩ : ∃ R, idxL p l = R := ⟨_, rfl⟩
  have HR := Lib.hid hR
  rw [hR]
  clear hR
  go_enter Try.func57, Try.ntmps57
  go_wp2
  go_loopg [8] n (fun kk v wl => ∃ j : Nat, j ≤ n ∧ n - j ≤ kk ∧ v = .int .i64 j ∧ Hid (∀ i x, i < j → l[i]? = some x → p x = false) ∧ Hid (Below w.heap.size w wl))
  case atStart => exact ⟨0, by omega, by omega, rfl, Lib.hid fun i x h => absurd h (by omega), Lib.hid (Below.refl _ _)⟩
  case round =>
    obtain ⟨j, hj, hjk, rfl, HNO, HBL⟩ := hrel
    by_cases hlt : j < n
    · obtain ⟨x, hx⟩ : ∃ x, l[j]? = some x := ⟨_, List.getElem?_eq_getElem (by rw [HN.out]; omega)⟩
      obtain ⟨bk, off, rfl, d0⟩ := (HW.out.under HBL.out).int13 hx
      have HX := Lib.hid hx
      have y0 : (0 : Int) ≤ j := by omega
      have y1 : (j : Int) < n := by omega
      have HC := Lib.hid (HE.out x wr HBL.out)
      clear hx
      generalize hb : p x = b at *
      have HBE := Lib.hid hb
      clear hb
      cases b with
      | true =>
        have HF : Hid (R = j) := Lib.hid (by rw [← HR.out]; exact idx_hit HX.out HBE.out HNO.out)
        go_upto_region 4 with fail
        go_wp2_with fail
        refine HC.out.mono ?_
        rintro e w1 ⟨rfl, hb1⟩
        have HB1 := Lib.hid (HBL.out.trans (hb1.mono HBL.out.size))
        clear hb1 d0 HBE HNO
        go_wp2
        go_ret
        exact ⟨by rw [HF.out]; rfl, HB1.out⟩
      | false =>
        go_upto_region 4 with fail
        go_wp2_with fail
        refine HC.out.mono ?_
        rintro e w1 ⟨rfl, hb1⟩
        have HB1 := Lib.hid (HBL.out.trans (hb1.mono HBL.out.size))
        have HN2 : Hid (∀ i y, i < j + 1 → l[i]? = some y → p y = false) := Lib.hid fun i y hi hy => by
          by_cases h : i = j
          · subst h; rw [HX.out] at hy; cases hy; exact HBE.out
          · exact HNO.out i y (by omega) hy
        clear hb1 d0 HBE HNO
        go_wp2
        go_roundg (gk - 1)
        case measure => omega
        case rel => exact ⟨j + 1, by omega, by omega, by go_num, HN2, HB1⟩
    · have y1 : ¬ (j : Int) < n := by omega
      have HF : Hid (R = -1) := Lib.hid (by rw [← HR.out]; exact idx_miss fun i y hi hy => HNO.out i y (by have := HN.out; omega) hy)
      go_wp2
      go_ret
      exact ⟨by rw [HF.out]; rfl, HBL.out⟩

set_option maxRecDepth 100000 in
set_option maxHeartbeats 8000000 in
theorem oct_nl (p : Int → Bool) (l : List Int) (A : Option Addr) (n c : Nat) (w : World) (hs : SlO inC 1 w A n c l) (hbig : n ≤ 1048576)
    (HE : Hid (∀ (x : Int) W, Below w.heap.size w W → Calls Try.prog 39 #[.int .i64 x] W fun e w' => e = .returned (.bool (p x)) ∧ Below W.heap.size W w')) :
    Calls Try.prog 38 #[.slice A n c, .func (.func 39) #[] #[]] w fun e w' => e = .returned (.bool (l.any p)) ∧ Below w.heap.size w w' := by
  have H := Lib.hid (oix_nl p l A n c w hs hbig HE)
  clear hs HE
  rw [← idx_nonneg]
  generalize idxL p l = R at *
  go_enter Try.func38, Try.ntmps38
  go_wp2_with fail
  refine H.out.mono ?_
  rintro e w1 ⟨rfl, hb1⟩
  have HB1 := Lib.hid hb1
  clear hb1 H
  go_wp2
  go_ret
  exact ⟨rfl, HB1.out⟩

set_option maxRecDepth 100000 in
set_option maxHeartbeats 8000000 in
theorem osn_has (l : List Sn3) (A : Option Addr) (n c : Nat) (e x : Int) (w : World) (hs : SlO snC 3 w A n c l) (_ : n ≤ c) (hn : n ≤ 4096) : Calls Try.prog 28 #[.slice A n c, .int .i64 e, .int .i64 x] w fun r w' => r = .returned (.bool (hasL l e x)) ∧ Below w.heap.size w w' := by
  obtain ⟨wa, hwa⟩ : ∃ wa, (w.alloc (.cells #[.int .i64 e] 3)).alloc (.cells #[.int .i64 x] 3) = wa := ⟨_, rfl⟩
  have hbwa : Below w.heap.size w wa := by rw [← hwa]; exact ((Below.refl _ _).alloc (Nat.le_refl _) _).alloc (by simp) _
  have h0 : Has wa (w.heap.size) 3 #[.int .i64 e] := by rw [← hwa]; exact ((Has.made _ _ _).beside _)
  have h1 : Has wa (w.heap.size + 1) 3 #[.int .i64 x] := by rw [← hwa]; exact (has_at11 (by simp))
  have HWA := Lib.hid hwa; have HBWA := Lib.hid hbwa
  have HE : Hid (∀ (s : Sn3) W, Below wa.heap.size wa W → Calls Try.prog 43 #[.agg (snA s), .pointer (some ⟨w.heap.size, 0, none⟩), .pointer (some ⟨w.heap.size + 1, 0, none⟩)] W fun r w' => r = .returned (.bool (hasS s e x)) ∧ Below W.heap.size W w') := Lib.hid fun s W hW => oshc_any s (w.heap.size) e x W (h0.under hW h0.lt) (h1.under hW h1.lt)
  have H := Lib.hid (oct_sh (fun s => hasS s e x) l A n c (w.heap.size) wa (hs.under hbwa) (by omega) HE)
  unfold hasL
  generalize (l.any fun s => hasS s e x) = R at *
  clear hwa hbwa h0 h1 hs HE
  go_enter Try.func28, Try.ntmps28
  go_upto_region 1 with fail
  rw [HWA.out]
  clear HWA
  go_wp2_with fail
  refine H.out.mono ?_
  rintro e_ w1 ⟨rfl, hb1⟩
  have HB1 := Lib.hid (HBWA.out.trans (hb1.mono HBWA.out.size))
  clear hb1 H HBWA
  go_wp2
  go_ret
  exact ⟨rfl, HB1.out⟩

set_option maxRecDepth 100000 in
set_option maxHeartbeats 8000000 in
theorem osn_union (a b : List Sn3) (A B : Option Addr) (n c m d : Nat) (w : World) (ha : SlO snC 3 w A n c a) (hb : SlO snC 3 w B m d b) (_ : n ≤ c) (_ : m ≤ d) (hn : n ≤ 4096) (hm : m ≤ 4096) : Calls Try.prog 13 #[.slice A n c, .slice B m d] w fun r w' => ∃ X x, r = .returned (.slice X (unionL a b).length x) ∧ SlO snC 3 w' X (unionL a b).length x (unionL a b) ∧ (unionL a b).length ≤ x ∧ Below w.heap.size w w' := by
  have H := Lib.hid (oscollect_any 33 (fun x y => x || y) ⟨true, true, true⟩ (fun x y W => oskU x y W) (enters_of Try.func33 (by kernel_rfl) rfl) (by intro x y; cases x <;> cases y <;> decide) a b A B n c m d w ha hb hn hm)
  unfold unionL
  generalize formL a b ⟨true, true, true⟩ = R at *
  clear ha hb hn hm
  go_enter Try.func13, Try.ntmps13
  go_wp2_with fail
  refine H.out.mono ?_
  rintro e_ w1 ⟨X, x, rfl, hs1, hc1, hb1⟩
  have HS1 := Lib.hid hs1; have HC1 := Lib.hid hc1; have HB1 := Lib.hid hb1
  clear hs1 hc1 hb1 H
  go_wp2
  go_ret
  exact ⟨X, x, rfl, HS1.out, HC1.out, HB1.out⟩

set_option maxRecDepth 100000 in
set_option maxHeartbeats 8000000 in
theorem osn_minus (a b : List Sn3) (A B : Option Addr) (n c m d : Nat) (w : World) (ha : SlO snC 3 w A n c a) (hb : SlO snC 3 w B m d b) (_ : n ≤ c) (_ : m ≤ d) (hn : n ≤ 4096) (hm : m ≤ 4096) : Calls Try.prog 15 #[.slice A n c, .slice B m d] w fun r w' => ∃ X x, r = .returned (.slice X (minusL a b).length x) ∧ SlO snC 3 w' X (minusL a b).length x (minusL a b) ∧ (minusL a b).length ≤ x ∧ Below w.heap.size w w' := by
  have H := Lib.hid (oscollect_any 34 (fun x y => x && !y) ⟨true, false, false⟩ (fun x y W => oskM x y W) (enters_of Try.func34 (by kernel_rfl) rfl) (by intro x y; cases x <;> cases y <;> decide) a b A B n c m d w ha hb hn hm)
  unfold minusL
  generalize formL a b ⟨true, false, false⟩ = R at *
  clear ha hb hn hm
  go_enter Try.func15, Try.ntmps15
  go_wp2_with fail
  refine H.out.mono ?_
  rintro e_ w1 ⟨X, x, rfl, hs1, hc1, hb1⟩
  have HS1 := Lib.hid hs1; have HC1 := Lib.hid hc1; have HB1 := Lib.hid hb1
  clear hs1 hc1 hb1 H
  go_wp2
  go_ret
  exact ⟨X, x, rfl, HS1.out, HC1.out, HB1.out⟩

set_option maxRecDepth 100000 in
set_option maxHeartbeats 8000000 in
theorem osn_both (a b : List Sn3) (A B : Option Addr) (n c m d : Nat) (w : World) (ha : SlO snC 3 w A n c a) (hb : SlO snC 3 w B m d b) (_ : n ≤ c) (_ : m ≤ d) (hn : n ≤ 4096) (hm : m ≤ 4096) : Calls Try.prog 17 #[.slice A n c, .slice B m d] w fun r w' => ∃ X x, r = .returned (.slice X (bothL a b).length x) ∧ SlO snC 3 w' X (bothL a b).length x (bothL a b) ∧ (bothL a b).length ≤ x ∧ Below w.heap.size w w' := by
  have H := Lib.hid (oscollect_any 35 (fun x y => x && y) ⟨false, false, true⟩ (fun x y W => oskB x y W) (enters_of Try.func35 (by kernel_rfl) rfl) (by intro x y; cases x <;> cases y <;> decide) a b A B n c m d w ha hb hn hm)
  unfold bothL
  generalize formL a b ⟨false, false, true⟩ = R at *
  clear ha hb hn hm
  go_enter Try.func17, Try.ntmps17
  go_wp2_with fail
  refine H.out.mono ?_
  rintro e_ w1 ⟨X, x, rfl, hs1, hc1, hb1⟩
  have HS1 := Lib.hid hs1; have HC1 := Lib.hid hc1; have HB1 := Lib.hid hb1
  clear hs1 hc1 hb1 H
  go_wp2
  go_ret
  exact ⟨X, x, rfl, HS1.out, HC1.out, HB1.out⟩

theorem norm_union (l : List Sn3) : unionL l [] = normL l := norm_uniq (union_normal l []) (norm_normal l) fun e x => by
  rw [union_has, norm_has]
  simp [hasL]
set_option maxRecDepth 100000 in
set_option maxHeartbeats 8000000 in
theorem osn_norm (l : List Sn3) (A : Option Addr) (n c : Nat) (w : World) (hs : SlO snC 3 w A n c l) (hc : n ≤ c) (hn : n ≤ 4096) : Calls Try.prog 11 #[.slice A n c] w fun r w' => ∃ X x, r = .returned (.slice X (normL l).length x) ∧ SlO snC 3 w' X (normL l).length x (normL l) ∧ (normL l).length ≤ x ∧ Below w.heap.size w w' := by
  have H := Lib.hid (osn_union l [] A none n c 0 0 w hs (SlO.nil _ _ _) hc (Nat.le_refl _) hn (by omega))
  rw [norm_union] at H
  generalize normL l = R at *
  clear hs hc hn
  go_enter Try.func11, Try.ntmps11
  go_wp2_with fail
  refine H.out.mono ?_
  rintro e_ w1 ⟨X, x, rfl, hs1, hc1, hb1⟩
  have HS1 := Lib.hid hs1; have HC1 := Lib.hid hc1; have HB1 := Lib.hid hb1
  clear hs1 hc1 hb1 H
  go_wp2
  go_ret
  exact ⟨X, x, rfl, HS1.out, HC1.out, HB1.out⟩

set_option maxRecDepth 100000 in
set_option maxHeartbeats 8000000 in
theorem osn_within (a b : List Sn3) (A B : Option Addr) (n c m d : Nat) (w : World) (ha : SlO snC 3 w A n c a) (hb : SlO snC 3 w B m d b) (hc : n ≤ c) (hd : m ≤ d) (hn : n ≤ 4096) (hm : m ≤ 4096) : Calls Try.prog 19 #[.slice A n c, .slice B m d] w fun r w' => r = .returned (.bool (withinL a b)) ∧ Below w.heap.size w w' := by
  have H := Lib.hid (osn_minus a b A B n c m d w ha hb hc hd hn hm)
  unfold withinL
  generalize minusL a b = R at *
  clear ha hb hc hd hn hm
  cases R with
  | nil =>
    rw [List.length_nil] at H
    go_enter Try.func19, Try.ntmps19
    go_wp2_with fail
    refine H.out.mono ?_
    rintro e_ w1 ⟨X, x, rfl, _, _, hb1⟩
    have HB1 := Lib.hid hb1
    clear hb1 H
    go_wp2
    go_ret
    exact ⟨by first | rfl | simp, HB1.out⟩
  | cons s r =>
    rw [List.length_cons] at H
    have y0 : ¬ ((r.length + 1 : Nat) : Int) = 0 := by omega
    have y1 : ((((r.length + 1 : Nat) : Int)) == 0) = false := by simp; omega
    have y2 : (0 : Int) < ((r.length + 1 : Nat) : Int) := by omega
    generalize r.length + 1 = k at *
    go_enter Try.func19, Try.ntmps19
    go_wp2_with fail
    refine H.out.mono ?_
    rintro e_ w1 ⟨X, x, rfl, _, _, hb1⟩
    have HB1 := Lib.hid hb1
    clear hb1 H
    go_wp2
    go_ret
    exact ⟨by first | rfl | (simp; done) | (simp; omega), HB1.out⟩

set_option maxRecDepth 100000 in
set_option maxHeartbeats 8000000 in
theorem osn_meets (a b : List Sn3) (A B : Option Addr) (n c m d : Nat) (w : World) (ha : SlO snC 3 w A n c a) (hb : SlO snC 3 w B m d b) (hc : n ≤ c) (hd : m ≤ d) (hn : n ≤ 4096) (hm : m ≤ 4096) : Calls Try.prog 21 #[.slice A n c, .slice B m d] w fun r w' => r = .returned (.bool (meetsL a b)) ∧ Below w.heap.size w w' := by
  have H := Lib.hid (osn_both a b A B n c m d w ha hb hc hd hn hm)
  unfold meetsL
  generalize bothL a b = R at *
  clear ha hb hc hd hn hm
  cases R with
  | nil =>
    rw [List.length_nil] at H
    go_enter Try.func21, Try.ntmps21
    go_wp2_with fail
    refine H.out.mono ?_
    rintro e_ w1 ⟨X, x, rfl, _, _, hb1⟩
    have HB1 := Lib.hid hb1
    clear hb1 H
    go_wp2
    go_ret
    exact ⟨by first | rfl | simp, HB1.out⟩
  | cons s r =>
    rw [List.length_cons] at H
    have y0 : ¬ ((r.length + 1 : Nat) : Int) = 0 := by omega
    have y1 : ((((r.length + 1 : Nat) : Int)) == 0) = false := by simp; omega
    have y2 : (0 : Int) < ((r.length + 1 : Nat) : Int) := by omega
    generalize r.length + 1 = k at *
    go_enter Try.func21, Try.ntmps21
    go_wp2_with fail
    refine H.out.mono ?_
    rintro e_ w1 ⟨X, x, rfl, _, _, hb1⟩
    have HB1 := Lib.hid hb1
    clear hb1 H
    go_wp2
    go_ret
    exact ⟨by first | rfl | (simp; done) | (simp; omega), HB1.out⟩

end Go.Proofs.Ytdkfphjcdcjbpaa
