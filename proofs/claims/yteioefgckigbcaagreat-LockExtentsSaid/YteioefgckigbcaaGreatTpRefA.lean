/-
  linesideref13, by contract: edge, end, joined, In, Out.
-/
import Derived.Test.YteioefgckigbcaaGreatTpEq

import Derived.BigQuiet

namespace Go.Proofs.YteioefgckigbcaaGreat

open Go.RowKit

open Go.Great

set_option maxRecDepth 100000 in
set_option maxHeartbeats 8000000 in
theorem redge_any (t : Tp3) (a : TpA) (n : Int) (w : World) :
    Calls Tryz.prog 58 #[.agg (tpC t a), .int .i64 n] w fun e w' => e = .returned (.bool (edgeB t n)) ∧ Below w.heap.size w w' := by
  obtain ⟨wa, hwa⟩ : ∃ wa, w.alloc (.cells (tpC t a) 27) = wa := ⟨_, rfl⟩
  have hbwa : Below w.heap.size w wa := by rw [← hwa]; exact (Below.refl _ _).alloc (Nat.le_refl _) _
  have h0 : Has wa (w.heap.size) 27 (tpC t a) := by rw [← hwa]; exact (Has.made _ _ _)
  have HWA := Lib.hid hwa; have HBWA := Lib.hid hbwa
  have c0 : wa.cell? ⟨w.heap.size, 0, none⟩ = some (.slice a.ae t.edges.length a.ce) := (h0).cell 0
  unfold edgeB
  clear hwa hbwa h0
  unfold tpC at *
  generalize t.edges.length = m at *
  by_cases h1 : 0 ≤ n
  · by_cases h2 : n < m
    · rw [decide_eq_true h1, decide_eq_true h2]
      go_enter Tryz.func58, Tryz.ntmps58
      go_upto_region 1 with fail
      rw [HWA.out]
      clear HWA
      go_wp2
      go_ret
      exact ⟨rfl, HBWA.out⟩
    · rw [decide_eq_true h1, decide_eq_false h2]
      go_enter Tryz.func58, Tryz.ntmps58
      go_upto_region 1 with fail
      rw [HWA.out]
      clear HWA
      go_wp2
      go_ret
      exact ⟨rfl, HBWA.out⟩
  · rw [decide_eq_false h1, Bool.false_and]
    go_enter Tryz.func58, Tryz.ntmps58
    go_upto_region 1 with fail
    rw [HWA.out]
    clear HWA
    go_wp2
    go_ret
    exact ⟨rfl, HBWA.out⟩

set_option maxRecDepth 100000 in
set_option maxHeartbeats 8000000 in
theorem rend_any (t : Tp3) (a : TpA) (x : Int × Int) (w : World) :
    Calls Tryz.prog 56 #[.agg (tpC t a), .agg (endA x)] w fun e w' => e = .returned (.bool (endB t x)) ∧ Below w.heap.size w w' := by
  obtain ⟨wa, hwa⟩ : ∃ wa, (w.alloc (.cells (tpC t a) 27)).alloc (.cells (endA x) 76) = wa := ⟨_, rfl⟩
  have hbwa : Below w.heap.size w wa := by rw [← hwa]; exact ((Below.refl _ _).alloc (Nat.le_refl _) _).alloc (by simp) _
  have h0 : Has wa (w.heap.size) 27 (tpC t a) := by rw [← hwa]; exact ((Has.made _ _ _).beside _)
  have h1 : Has wa (w.heap.size + 1) 76 (endA x) := by rw [← hwa]; exact (has_at11 (by simp))
  have HWA := Lib.hid hwa; have HBWA := Lib.hid hbwa
  have c0 : wa.cell? ⟨w.heap.size + 1, 0, none⟩ = some (.int .i64 x.1) := h1.cell 0
  have H := Lib.hid (redge_any t a x.1 wa)
  have HP := Lib.hid h0
  have HC := Lib.hid (fun W (hW : Below wa.heap.size wa W) => h1.under hW h1.lt)
  unfold endB
  clear hwa hbwa h0 h1
  generalize edgeB t x.1 = b at *
  obtain ⟨x1, x2⟩ := x
  unfold endA at *
  dsimp only at *
  cases b with
  | false =>
    rw [Bool.false_and]
    go_enter Tryz.func56, Tryz.ntmps56
    go_upto_region 1 with fail
    rw [HWA.out]
    clear HWA
    go_wp2_with (with_reducible refine wpList_load_row (o := ⟨some 6, _, _, _, _, _⟩) rfl 27 _ rfl (w.heap.size) rfl 27 (tpC t a) (0, 0) _ (HP.out).raw11 Tryz.underlying27 rfl (by kernel_rfl) ?_)
    refine H.out.mono ?_
    rintro e w1 ⟨rfl, hb1⟩
    have c1 : w1.cell? ⟨w.heap.size + 1, 1, none⟩ = some (.int .i64 x2) := (HC.out w1 hb1).cell 1
    have HB1 := Lib.hid (HBWA.out.trans (hb1.mono HBWA.out.size))
    clear hb1 HC H HP HBWA c0
    go_wp2
    go_ret
    exact ⟨rfl, HB1.out⟩
  | true =>
    rw [Bool.true_and]
    by_cases h0 : x2 = 0
    · subst h0
      go_enter Tryz.func56, Tryz.ntmps56
      go_upto_region 1 with fail
      rw [HWA.out]
      clear HWA
      go_wp2_with (with_reducible refine wpList_load_row (o := ⟨some 6, _, _, _, _, _⟩) rfl 27 _ rfl (w.heap.size) rfl 27 (tpC t a) (0, 0) _ (HP.out).raw11 Tryz.underlying27 rfl (by kernel_rfl) ?_)
      refine H.out.mono ?_
      rintro e w1 ⟨rfl, hb1⟩
      have c1 : w1.cell? ⟨w.heap.size + 1, 1, none⟩ = some (.int .i64 0) := (HC.out w1 hb1).cell 1
      have HB1 := Lib.hid (HBWA.out.trans (hb1.mono HBWA.out.size))
      clear hb1 HC H HP HBWA c0
      go_wp2
      go_ret
      exact ⟨by simp, HB1.out⟩
    have e0 : (x2 == 0) = false := by simp [h0]
    rw [e0, Bool.false_or]
    clear h0
    by_cases h1 : x2 = 1
    · subst h1
      go_enter Tryz.func56, Tryz.ntmps56
      go_upto_region 1 with fail
      rw [HWA.out]
      clear HWA
      go_wp2_with (with_reducible refine wpList_load_row (o := ⟨some 6, _, _, _, _, _⟩) rfl 27 _ rfl (w.heap.size) rfl 27 (tpC t a) (0, 0) _ (HP.out).raw11 Tryz.underlying27 rfl (by kernel_rfl) ?_)
      refine H.out.mono ?_
      rintro e w1 ⟨rfl, hb1⟩
      have c1 : w1.cell? ⟨w.heap.size + 1, 1, none⟩ = some (.int .i64 1) := (HC.out w1 hb1).cell 1
      have HB1 := Lib.hid (HBWA.out.trans (hb1.mono HBWA.out.size))
      clear hb1 HC H HP HBWA c0
      go_wp2
      go_ret
      exact ⟨by simp, HB1.out⟩
    have e1 : (x2 == 1) = false := by simp [h1]
    rw [e1]
    clear h1
    go_enter Tryz.func56, Tryz.ntmps56
    go_upto_region 1 with fail
    rw [HWA.out]
    clear HWA
    go_wp2_with (with_reducible refine wpList_load_row (o := ⟨some 6, _, _, _, _, _⟩) rfl 27 _ rfl (w.heap.size) rfl 27 (tpC t a) (0, 0) _ (HP.out).raw11 Tryz.underlying27 rfl (by kernel_rfl) ?_)
    refine H.out.mono ?_
    rintro e w1 ⟨rfl, hb1⟩
    have c1 : w1.cell? ⟨w.heap.size + 1, 1, none⟩ = some (.int .i64 x2) := (HC.out w1 hb1).cell 1
    have HB1 := Lib.hid (HBWA.out.trans (hb1.mono HBWA.out.size))
    clear hb1 HC H HP HBWA c0
    go_wp2
    go_ret
    exact ⟨by simp, HB1.out⟩

set_option maxRecDepth 100000 in
set_option maxHeartbeats 8000000 in
theorem rin_any (s : St3) (w : World) :
    Calls Tryz.prog 92 #[.agg (stA13 s)] w fun e w' => e = .returned (.agg (endA (inE s))) ∧ Below w.heap.size w w' := by
  obtain ⟨wa, hwa⟩ : ∃ wa, (w.alloc (.cells (stA13 s) 82)).alloc (.cells #[.int .i64 0, .int .i64 0] 76) = wa := ⟨_, rfl⟩
  have hbwa : Below w.heap.size w wa := by rw [← hwa]; exact ((Below.refl _ _).alloc (Nat.le_refl _) _).alloc (by simp) _
  have h0 : Has wa (w.heap.size) 82 (stA13 s) := by rw [← hwa]; exact ((Has.made _ _ _).beside _)
  have h1 : Has wa (w.heap.size + 1) 76 #[.int .i64 0, .int .i64 0] := by rw [← hwa]; exact (has_at11 (by simp))
  have HWA := Lib.hid hwa; have HBWA := Lib.hid hbwa
  have c0 : wa.cell? ⟨w.heap.size, 0, none⟩ = some (.int .i64 s.edge) := h0.cell 0
  have c1 : wa.cell? ⟨w.heap.size, 1, none⟩ = some (.bool s.rev) := h0.cell 1
  have HZ := Lib.hid h1
  clear hwa hbwa h0 h1
  obtain ⟨n, r⟩ := s
  unfold stA13 at *
  unfold endA inE
  dsimp only at *
  cases r with
  | false =>
    have HR := Lib.hid (has_row11 HZ.out #[.int .i64 n, .int .i64 0])
    have HBF := Lib.hid (below_row (g := w.heap.size + 1) HBWA.out (by omega) #[.int .i64 n, .int .i64 0])
    go_enter Tryz.func92, Tryz.ntmps92
    go_upto_region 1 with fail
    rw [HWA.out]
    clear HWA HBWA
    go_wp2_with (with_reducible refine wpList_store_rowTo (o := ⟨none, _, _, _, _, _⟩) rfl 76 _ _ rfl rfl (w.heap.size + 1) #[.int .i64 n, .int .i64 0] rfl rfl 76 _ (HZ.out).raw11 (by kernel_rfl) (by kernel_rfl) (by kernel_rfl) ?_)
    refine bodyPost_ret (results_cell_row rfl _ _ (w.heap.size + 1) 76 _ _ _ rfl HR.out Tryz.underlying76 rfl (by kernel_rfl)) rfl ?_
    exact ⟨rfl, HBF.out⟩
  | true =>
    have HR := Lib.hid (has_row11 HZ.out #[.int .i64 n, .int .i64 1])
    have HBF := Lib.hid (below_row (g := w.heap.size + 1) HBWA.out (by omega) #[.int .i64 n, .int .i64 1])
    go_enter Tryz.func92, Tryz.ntmps92
    go_upto_region 1 with fail
    rw [HWA.out]
    clear HWA HBWA
    go_wp2_with (with_reducible refine wpList_store_rowTo (o := ⟨none, _, _, _, _, _⟩) rfl 76 _ _ rfl rfl (w.heap.size + 1) #[.int .i64 n, .int .i64 1] rfl rfl 76 _ (HZ.out).raw11 (by kernel_rfl) (by kernel_rfl) (by kernel_rfl) ?_)
    refine bodyPost_ret (results_cell_row rfl _ _ (w.heap.size + 1) 76 _ _ _ rfl HR.out Tryz.underlying76 rfl (by kernel_rfl)) rfl ?_
    exact ⟨rfl, HBF.out⟩

set_option maxRecDepth 100000 in
set_option maxHeartbeats 8000000 in
theorem rout_any (s : St3) (w : World) :
    Calls Tryz.prog 91 #[.agg (stA13 s)] w fun e w' => e = .returned (.agg (endA (outE s))) ∧ Below w.heap.size w w' := by
  obtain ⟨wa, hwa⟩ : ∃ wa, (w.alloc (.cells (stA13 s) 82)).alloc (.cells #[.int .i64 0, .int .i64 0] 76) = wa := ⟨_, rfl⟩
  have hbwa : Below w.heap.size w wa := by rw [← hwa]; exact ((Below.refl _ _).alloc (Nat.le_refl _) _).alloc (by simp) _
  have h0 : Has wa (w.heap.size) 82 (stA13 s) := by rw [← hwa]; exact ((Has.made _ _ _).beside _)
  have h1 : Has wa (w.heap.size + 1) 76 #[.int .i64 0, .int .i64 0] := by rw [← hwa]; exact (has_at11 (by simp))
  have HWA := Lib.hid hwa; have HBWA := Lib.hid hbwa
  have c0 : wa.cell? ⟨w.heap.size, 0, none⟩ = some (.int .i64 s.edge) := h0.cell 0
  have c1 : wa.cell? ⟨w.heap.size, 1, none⟩ = some (.bool s.rev) := h0.cell 1
  have HZ := Lib.hid h1
  clear hwa hbwa h0 h1
  obtain ⟨n, r⟩ := s
  unfold stA13 at *
  unfold endA outE
  dsimp only at *
  cases r with
  | false =>
    have HR := Lib.hid (has_row11 HZ.out #[.int .i64 n, .int .i64 1])
    have HBF := Lib.hid (below_row (g := w.heap.size + 1) HBWA.out (by omega) #[.int .i64 n, .int .i64 1])
    go_enter Tryz.func91, Tryz.ntmps91
    go_upto_region 1 with fail
    rw [HWA.out]
    clear HWA HBWA
    go_wp2_with (with_reducible refine wpList_store_rowTo (o := ⟨none, _, _, _, _, _⟩) rfl 76 _ _ rfl rfl (w.heap.size + 1) #[.int .i64 n, .int .i64 1] rfl rfl 76 _ (HZ.out).raw11 (by kernel_rfl) (by kernel_rfl) (by kernel_rfl) ?_)
    refine bodyPost_ret (results_cell_row rfl _ _ (w.heap.size + 1) 76 _ _ _ rfl HR.out Tryz.underlying76 rfl (by kernel_rfl)) rfl ?_
    exact ⟨rfl, HBF.out⟩
  | true =>
    have HR := Lib.hid (has_row11 HZ.out #[.int .i64 n, .int .i64 0])
    have HBF := Lib.hid (below_row (g := w.heap.size + 1) HBWA.out (by omega) #[.int .i64 n, .int .i64 0])
    go_enter Tryz.func91, Tryz.ntmps91
    go_upto_region 1 with fail
    rw [HWA.out]
    clear HWA HBWA
    go_wp2_with (with_reducible refine wpList_store_rowTo (o := ⟨none, _, _, _, _, _⟩) rfl 76 _ _ rfl rfl (w.heap.size + 1) #[.int .i64 n, .int .i64 0] rfl rfl 76 _ (HZ.out).raw11 (by kernel_rfl) (by kernel_rfl) (by kernel_rfl) ?_)
    refine bodyPost_ret (results_cell_row rfl _ _ (w.heap.size + 1) 76 _ _ _ rfl HR.out Tryz.underlying76 rfl (by kernel_rfl)) rfl ?_
    exact ⟨rfl, HBF.out⟩

set_option maxRecDepth 100000 in
set_option maxHeartbeats 8000000 in
theorem rjoined_any (A : Option Addr) (n c : Nat) (l : List Jt3) (a b : Int × Int) (w : World) (hj : SlO jtC 4 w A n c l) (hn : n ≤ 1048576) :
    Calls Tryz.prog 57 #[.slice A n c, .agg (endA a), .agg (endA b)] w fun e w' => e = .returned (.bool (joinB l a b)) ∧ Below w.heap.size w w' := by
  obtain ⟨wa, hwa⟩ : ∃ wa, (w.alloc (.cells (endA a) 76)).alloc (.cells (endA b) 76) = wa := ⟨_, rfl⟩
  have hbwa : Below w.heap.size w wa := by rw [← hwa]; exact ((Below.refl _ _).alloc (Nat.le_refl _) _).alloc (by simp) _
  have h0 : Has wa (w.heap.size) 76 (endA a) := by rw [← hwa]; exact ((Has.made _ _ _).beside _)
  have h1 : Has wa (w.heap.size + 1) 76 (endA b) := by rw [← hwa]; exact (has_at11 (by simp))
  have HWA := Lib.hid hwa; have HBWA := Lib.hid hbwa
  have HJ := Lib.hid (hj.under hbwa)
  have HL := Lib.hid hj.1
  have c0 : wa.cell? ⟨w.heap.size, 0, none⟩ = some (.int .i64 a.1) := h0.cell 0
  have c1 : wa.cell? ⟨w.heap.size, 1, none⟩ = some (.int .i64 a.2) := h0.cell 1
  have f0 : wa.cell? ⟨w.heap.size + 1, 0, none⟩ = some (.int .i64 b.1) := h1.cell 0
  have f1 : wa.cell? ⟨w.heap.size + 1, 1, none⟩ = some (.int .i64 b.2) := h1.cell 1
  clear hwa hbwa h0 h1 hj
  obtain ⟨q, hq⟩ : ∃ q, joinB l a b = q := ⟨_, rfl⟩
  have HQ := Lib.hid hq
  rw [hq]
  clear hq
  unfold endA at HWA
  unfold endA
  go_enter Tryz.func57, Tryz.ntmps57
  go_upto_region 1 with fail
  rw [HWA.out]
  clear HWA
  go_wp2
  go_loopg [7] n (fun kk v wl => ∃ i k : Nat, i ≤ n ∧ n - i ≤ kk ∧ v = .int .i64 i ∧ Hid (∀ m j, m < i → l[m]? = some j → joinJ a b j = false) ∧ wl = wa.drewN k)
  case atStart => exact ⟨0, 0, by omega, by omega, rfl, Lib.hid fun m j h => absurd h (by omega), rfl⟩
  case round =>
    obtain ⟨i, k, hi, hik, rfl, HNO, hwr⟩ := hrel
    have HWR := Lib.hid hwr
    by_cases hlt : i < n
    rotate_left
    · have hqf : q = false := by
        rw [← HQ.out]
        unfold joinB
        rw [List.any_eq_false]
        intro j hjm
        obtain ⟨m, hm, rfl⟩ := List.getElem_of_mem hjm
        have hl := HL.out
        rw [HNO.out m _ (by omega) (List.getElem?_eq_getElem hm)]
        decide
      have x1 : ¬ (i : Int) < n := by omega
      have HBF : Hid (Below w.heap.size w wr) := Lib.hid (by rw [HWR.out]; exact below_draws HBWA.out k)
      clear hwr
      go_wp2
      go_ret
      exact ⟨by first | rfl | rw [hqf], HBF.out⟩
    obtain ⟨j, hj⟩ : ∃ j, l[i]? = some j := ⟨_, List.getElem?_eq_getElem (by rw [HL.out]; omega)⟩
    have HJJ := Lib.hid hj
    obtain ⟨bk, off, rfl, d0, d1, d2, d3⟩ := HJ.out.joint hj
    clear hj
    have y0 : (0 : Int) ≤ i := by omega
    have y1 : (i : Int) < n := by omega
    have q1 := eq_end13 j.a a
    have q2 := eq_end13 j.b b
    have q3 := eq_end13 j.a b
    have q4 := eq_end13 j.b a
    have hjj : joinJ a b j = ((eqE j.a a && eqE j.b b) || (eqE j.a b && eqE j.b a)) := rfl
    obtain ⟨e1, he1⟩ : ∃ e, eqE j.a a = e := ⟨_, rfl⟩
    obtain ⟨e2, he2⟩ : ∃ e, eqE j.b b = e := ⟨_, rfl⟩
    obtain ⟨e3, he3⟩ : ∃ e, eqE j.a b = e := ⟨_, rfl⟩
    obtain ⟨e4, he4⟩ : ∃ e, eqE j.b a = e := ⟨_, rfl⟩
    rw [he1] at q1
    rw [he2] at q2
    rw [he3] at q3
    rw [he4] at q4
    rw [he1, he2, he3, he4] at hjj
    have HJB := Lib.hid hjj
    clear he1 he2 he3 he4 hjj
    unfold endA at q1 q2 q3 q4
    subst hwr
    skip
    go_upto_region 4 with fail
    cases e1 with
    | false =>
      cases e3 with
      | false =>
        go_quiet (fail)
        go_wp2
        go_roundg (gk - 1)
        case measure => omega
        case rel =>
          refine ⟨i + 1, _, by omega, by omega, by go_num, Lib.hid (fun m j' hm hj' => ?_), by first | rfl | rw [World.drewN_drewN]⟩
          by_cases hmi : m = i
          · subst hmi
            rw [HJJ.out] at hj'
            injection hj' with hj'
            rw [← hj', HJB.out]
            simp
          · exact HNO.out m j' (by omega) hj'
      | true =>
        cases e4 with
        | false =>
          go_quiet (fail)
          go_wp2
          go_roundg (gk - 1)
          case measure => omega
          case rel =>
            refine ⟨i + 1, _, by omega, by omega, by go_num, Lib.hid (fun m j' hm hj' => ?_), by first | rfl | rw [World.drewN_drewN]⟩
            by_cases hmi : m = i
            · subst hmi
              rw [HJJ.out] at hj'
              injection hj' with hj'
              rw [← hj', HJB.out]
              simp
            · exact HNO.out m j' (by omega) hj'
        | true =>
          go_quiet (fail)
          go_wp2
          go_ret
          have hq : q = true := by
            rw [← HQ.out]
            unfold joinB
            rw [List.any_eq_true]
            exact ⟨j, List.mem_of_getElem? HJJ.out, by rw [HJB.out]; simp⟩
          exact ⟨by first | rfl | (rw [hq]; rfl) | rw [hq], by first | exact below_draws HBWA.out _ | (rw [World.drewN_drewN]; exact below_draws HBWA.out _)⟩
    | true =>
      cases e2 with
      | false =>
        cases e3 with
        | false =>
          go_quiet (fail)
          go_wp2
          go_roundg (gk - 1)
          case measure => omega
          case rel =>
            refine ⟨i + 1, _, by omega, by omega, by go_num, Lib.hid (fun m j' hm hj' => ?_), by first | rfl | rw [World.drewN_drewN]⟩
            by_cases hmi : m = i
            · subst hmi
              rw [HJJ.out] at hj'
              injection hj' with hj'
              rw [← hj', HJB.out]
              simp
            · exact HNO.out m j' (by omega) hj'
        | true =>
          cases e4 with
          | false =>
            go_quiet (fail)
            go_wp2
            go_roundg (gk - 1)
            case measure => omega
            case rel =>
              refine ⟨i + 1, _, by omega, by omega, by go_num, Lib.hid (fun m j' hm hj' => ?_), by first | rfl | rw [World.drewN_drewN]⟩
              by_cases hmi : m = i
              · subst hmi
                rw [HJJ.out] at hj'
                injection hj' with hj'
                rw [← hj', HJB.out]
                simp
              · exact HNO.out m j' (by omega) hj'
          | true =>
            go_quiet (fail)
            go_wp2
            go_ret
            have hq : q = true := by
              rw [← HQ.out]
              unfold joinB
              rw [List.any_eq_true]
              exact ⟨j, List.mem_of_getElem? HJJ.out, by rw [HJB.out]; simp⟩
            exact ⟨by first | rfl | (rw [hq]; rfl) | rw [hq], by first | exact below_draws HBWA.out _ | (rw [World.drewN_drewN]; exact below_draws HBWA.out _)⟩
      | true =>
        go_quiet (fail)
        go_wp2
        go_ret
        have hq : q = true := by
          rw [← HQ.out]
          unfold joinB
          rw [List.any_eq_true]
          exact ⟨j, List.mem_of_getElem? HJJ.out, by rw [HJB.out]; simp⟩
        exact ⟨by first | rfl | (rw [hq]; rfl) | rw [hq], by first | exact below_draws HBWA.out _ | (rw [World.drewN_drewN]; exact below_draws HBWA.out _)⟩

end Go.Proofs.YteioefgckigbcaaGreat
