/-
  linesideref12, by contract: sized, place, May.
-/
import Derived.Test.YtbohoejikihnfaaLkMem

import Derived.BigQuiet

namespace Go.Proofs.Ytbohoejikihnfaa

open Go.RowKit

open Go.Great

set_option maxRecDepth 100000 in
set_option maxHeartbeats 8000000 in
theorem rsized_any (A : Option Addr) (c : Nat) (xs : List Nat) (w : World) :
    Calls Try.prog 32 #[.slice A xs.length c] w fun e w' => e = .returned (.bool (okB xs)) ∧ w = w' := by
  unfold okB
  by_cases h0 : 0 < xs.length
  · have x0 : (0 : Int) < xs.length := by omega
    rw [decide_eq_true h0, Bool.true_and]
    by_cases h1 : xs.length < 1024
    · have x1 : (xs.length : Int) < 1024 := by omega
      rw [decide_eq_true h1]
      clear h0 h1
      go_enter Try.func32, Try.ntmps32
      go_wp2
      go_ret
      exact ⟨rfl, rfl⟩
    · have x1 : ¬ (xs.length : Int) < 1024 := by omega
      rw [decide_eq_false h1]
      clear h0 h1
      go_enter Try.func32, Try.ntmps32
      go_wp2
      go_ret
      exact ⟨rfl, rfl⟩
  · have x0 : ¬ (0 : Int) < xs.length := by omega
    rw [decide_eq_false h0, Bool.false_and]
    clear h0
    go_enter Try.func32, Try.ntmps32
    go_wp2
    go_ret
    exact ⟨rfl, rfl⟩

set_option maxRecDepth 100000 in
set_option maxHeartbeats 8000000 in
theorem rplace_any {P : Nat → Prop} (l : L0) (A : Option Addr) (c : Nat) (t : Int) (w : World) (hw : WsR P w A l.ws.length c l.ws) (hbig : l.ws.length ≤ 1048576) :
    Calls Try.prog 33 #[.agg (lkC l A c), .int .i64 t] w fun e w' => (∃ i : Int, e = .returned (.int .i64 i) ∧ (0 ≤ i ↔ hasT l.ws t = true)) ∧ Below w.heap.size w w' := by
  obtain ⟨wa, hwa⟩ : ∃ wa, w.alloc (.cells (lkC l A c) 24) = wa := ⟨_, rfl⟩
  have hbwa : Below w.heap.size w wa := by rw [← hwa]; exact (Below.refl _ _).alloc (Nat.le_refl _) _
  have h0 : Has wa (w.heap.size) 24 (lkC l A c) := by rw [← hwa]; exact (Has.made _ _ _)
  have HWA := Lib.hid hwa; have HBWA := Lib.hid hbwa
  have c4 : wa.cell? ⟨w.heap.size, 4, none⟩ = some (.slice A l.ws.length c) := (h0).cell 4
  have HW := Lib.hid (hw.under hbwa)
  have HT : Hid (∀ b, b = hasT l.ws t → (b = true ↔ ∃ x ∈ l.ws, x.t = t)) := Lib.hid (by rintro b rfl; simp [hasT])
  obtain ⟨b, hb⟩ : ∃ b, b = hasT l.ws t := ⟨_, rfl⟩
  have HB := Lib.hid (HT.out b hb)
  rw [← hb]
  clear hwa hbwa h0 hb HT hw
  obtain ⟨p, m, q, h, ws⟩ := l
  dsimp only at *
  obtain ⟨n, hn⟩ : ∃ n, ws.length = n := ⟨_, rfl⟩
  unfold lkC at HWA
  dsimp only at HWA
  unfold lkC
  rw [hn] at HWA HW c4 hbig
  simp only [hn]
  go_enter Try.func33, Try.ntmps33
  go_upto_region 1 with fail
  rw [HWA.out]
  clear HWA
  go_wp2
  go_loopg [5] n (fun kk v wl => ∃ j : Nat, j ≤ n ∧ n - j ≤ kk ∧ v = .int .i64 j ∧ (∀ i x, i < j → ws[i]? = some x → x.t ≠ t) ∧ wl = wa)
  case atStart => exact ⟨0, by omega, by omega, rfl, fun i x h => absurd h (by omega), rfl⟩
  case round =>
    obtain ⟨j, hj, hjk, rfl, hno, rfl⟩ := hrel
    have HNO := Lib.hid hno
    clear hno
    by_cases hlt : j < n
    · obtain ⟨x, hx⟩ : ∃ x, ws[j]? = some x := ⟨_, List.getElem?_eq_getElem (by omega)⟩
      obtain ⟨bk, off, v, rfl, _, d0, _, _, _⟩ := HW.out.at_ hx
      have HX := Lib.hid hx
      obtain ⟨T, due, tries, body⟩ := x
      dsimp only at d0
      have x0 : (0 : Int) ≤ j := by omega
      have x1 : (j : Int) < n := by omega
      clear hx
      by_cases he : T = t
      · have hbt : b = true := HB.out.2 ⟨_, List.mem_of_getElem? HX.out, he⟩
        have he1 : (T == t) = true := by simp [he]
        clear he
        go_wp2
        go_ret
        exact ⟨⟨j, rfl, by first | (rw [hbt]; simp; done) | (simp; done) | omega⟩, HBWA.out⟩
      · have he1 : (T == t) = false := by simp [he]
        have HE := Lib.hid he
        clear he
        go_wp2
        go_roundg (gk - 1)
        case measure => omega
        case rel =>
          refine ⟨j + 1, by omega, by omega, by go_num, fun i x hi hx => ?_, rfl⟩
          by_cases h : i = j
          · subst h; rw [HX.out] at hx; cases hx; exact HE.out
          · exact HNO.out i x (by omega) hx
    · have x1 : ¬ (j : Int) < n := by omega
      have hbf : b = false := by
        cases b with
        | false => rfl
        | true =>
          obtain ⟨x, hx, e⟩ := HB.out.1 rfl
          obtain ⟨i, hi, rfl⟩ := List.getElem_of_mem hx
          exact absurd e (HNO.out i _ (by omega) (List.getElem?_eq_getElem hi))
      go_wp2
      go_ret
      exact ⟨⟨-1, rfl, by first | (rw [hbf]; simp; done) | (simp; done) | omega⟩, HBWA.out⟩

/-- What the loop of May has seen. -/
def seenOk (m : Int) (ws : List W0) (j : Nat) : Prop := (∀ x ∈ ws.take j, okW m x = true) ∧ (ws.take j).Pairwise fun a b => a.t < b.t
theorem seen_zero (m : Int) (ws : List W0) : seenOk m ws 0 := ⟨fun x hx => by simp at hx, by simp⟩
theorem seen_all (m : Int) (ws : List W0) : (ws.all (okW m) && decide (ws.Pairwise fun a b => a.t < b.t)) = true ↔ seenOk m ws ws.length := by
  unfold seenOk
  rw [List.take_length]
  simp
theorem seen_bad {m : Int} {ws : List W0} {j : Nat} {x : W0} (hx : ws[j]? = some x) (h : okW m x = false) : ¬ seenOk m ws ws.length := fun hs => by
  have := hs.1 x (by rw [List.take_length]; exact List.mem_of_getElem? hx)
  rw [h] at this
  cases this
theorem seen_low {m : Int} {ws : List W0} {i : Nat} {x y : W0} (hy : ws[i]? = some y) (hx : ws[i + 1]? = some x) (h : x.t ≤ y.t) : ¬ seenOk m ws ws.length := fun hs => by
  have h2 := hs.2
  rw [List.take_length, List.pairwise_iff_getElem] at h2
  obtain ⟨h3, e3⟩ := List.getElem?_eq_some_iff.1 hx
  obtain ⟨h4, e4⟩ := List.getElem?_eq_some_iff.1 hy
  have := h2 i (i + 1) h4 h3 (by omega)
  rw [e3, e4] at this
  omega
theorem seen_first {m : Int} {ws : List W0} {x : W0} (hx : ws[0]? = some x) (h : okW m x = true) : seenOk m ws 1 := by
  obtain ⟨h3, e3⟩ := List.getElem?_eq_some_iff.1 hx
  unfold seenOk
  rw [List.take_succ_eq_append_getElem h3, e3]
  exact ⟨fun y hy => by simp at hy; rw [hy]; exact h, by simp⟩
theorem seen_next {m : Int} {ws : List W0} {i : Nat} {x y : W0} (hs : seenOk m ws (i + 1)) (hy : ws[i]? = some y) (hx : ws[i + 1]? = some x) (ho : okW m x = true) (h : y.t < x.t) : seenOk m ws (i + 2) := by
  obtain ⟨h3, e3⟩ := List.getElem?_eq_some_iff.1 hx
  obtain ⟨h4, e4⟩ := List.getElem?_eq_some_iff.1 hy
  unfold seenOk at *
  obtain ⟨h1, h2⟩ := hs
  have e5 : ws.take (i + 1) = ws.take i ++ [y] := by rw [List.take_succ_eq_append_getElem h4, e4]
  rw [show i + 2 = (i + 1) + 1 from rfl, List.take_succ_eq_append_getElem h3, e3]
  refine ⟨fun z hz => ?_, ?_⟩
  · rcases List.mem_append.1 hz with hz | hz
    · exact h1 z hz
    · simp at hz; rw [hz]; exact ho
  · rw [List.pairwise_append]
    refine ⟨h2, by simp, fun a ha b hb => ?_⟩
    simp at hb
    subst hb
    rw [e5] at ha h2
    rcases List.mem_append.1 ha with ha | ha
    · have := (List.pairwise_append.1 h2).2.2 a ha y (by simp)
      omega
    · simp at ha; rw [ha]; exact h

set_option maxRecDepth 100000 in
set_option maxHeartbeats 8000000 in
theorem rmay12_any {P : Nat → Prop} (l : L0) (A : Option Addr) (c : Nat) (w : World) (hw : WsR P w A l.ws.length c l.ws) :
    Calls Try.prog 21 #[.agg (lkC l A c)] w fun e w' => e = .returned (.bool (mayL l)) ∧ Below w.heap.size w w' := by
  obtain ⟨wa, hwa⟩ : ∃ wa, w.alloc (.cells (lkC l A c) 24) = wa := ⟨_, rfl⟩
  have hbwa : Below w.heap.size w wa := by rw [← hwa]; exact (Below.refl _ _).alloc (Nat.le_refl _) _
  have h0 : Has wa (w.heap.size) 24 (lkC l A c) := by rw [← hwa]; exact (Has.made _ _ _)
  have HWA := Lib.hid hwa; have HBWA := Lib.hid hbwa
  have c0 : wa.cell? ⟨w.heap.size, 0, none⟩ = some (.int .i64 l.period) := (h0).cell 0
  have c1 : wa.cell? ⟨w.heap.size, 1, none⟩ = some (.int .i64 l.most) := (h0).cell 1
  have c2 : wa.cell? ⟨w.heap.size, 2, none⟩ = some (.int .i64 l.quiet) := (h0).cell 2
  have c3 : wa.cell? ⟨w.heap.size, 3, none⟩ = some (.int .i64 l.heard) := (h0).cell 3
  have c4 : wa.cell? ⟨w.heap.size, 4, none⟩ = some (.slice A l.ws.length c) := (h0).cell 4
  have HW := Lib.hid (hw.under hbwa)
  have HH := Lib.hid (fun W (hW : Below wa.heap.size wa W) => h0.under hW h0.lt)
  obtain ⟨p, m, q, h, ws⟩ := l
  obtain ⟨b, hb⟩ : ∃ b, mayL ⟨p, m, q, h, ws⟩ = b := ⟨_, rfl⟩
  rw [hb]
  unfold mayL headOk at hb
  have HT := Lib.hid (rtime_any h wa)
  dsimp only at *
  clear hwa hbwa h0 hw
  obtain ⟨n, hn⟩ : ∃ n, ws.length = n := ⟨_, rfl⟩
  have HSA := Lib.hid (seen_all m ws)
  unfold lkC at *
  dsimp only at *
  rw [hn] at HWA HW HH c4 HSA hb
  simp only [hn]
  obtain ⟨bt, hbt⟩ : ∃ bt, isT h = bt := ⟨_, rfl⟩
  rw [hbt] at HT hb
  clear hbt
  by_cases hgo : (1 ≤ p ∧ p ≤ 1048576 ∧ 0 ≤ m ∧ m ≤ 20 ∧ 1 ≤ q ∧ q ≤ 1048576) ∧ bt = true ∧ n ≤ 8
  rotate_left
  · obtain rfl : false = b := by
      rw [← hb]
      cases bt with
      | false => simp
      | true =>
        symm
        rw [Bool.eq_false_iff]
        intro hh
        simp only [Bool.and_eq_true, decide_eq_true_eq] at hh
        exact hgo ⟨⟨hh.1.1, hh.1.2.1, hh.1.2.2.1, hh.1.2.2.2.1, hh.1.2.2.2.2.1, hh.1.2.2.2.2.2.1⟩, rfl, hh.2.1⟩
    clear hb HSA HW HH
    have hno : (p < 1) ∨ (¬ p < 1 ∧ 1048576 < p) ∨ (¬ p < 1 ∧ ¬ 1048576 < p ∧ m < 0) ∨ (¬ p < 1 ∧ ¬ 1048576 < p ∧ ¬ m < 0 ∧ 20 < m) ∨ (¬ p < 1 ∧ ¬ 1048576 < p ∧ ¬ m < 0 ∧ ¬ 20 < m ∧ q < 1) ∨ (¬ p < 1 ∧ ¬ 1048576 < p ∧ ¬ m < 0 ∧ ¬ 20 < m ∧ ¬ q < 1 ∧ 1048576 < q) ∨ (¬ p < 1 ∧ ¬ 1048576 < p ∧ ¬ m < 0 ∧ ¬ 20 < m ∧ ¬ q < 1 ∧ ¬ 1048576 < q ∧ bt = false) ∨ (¬ p < 1 ∧ ¬ 1048576 < p ∧ ¬ m < 0 ∧ ¬ 20 < m ∧ ¬ q < 1 ∧ ¬ 1048576 < q ∧ bt = true ∧ 8 < (n : Int)) := by
      cases bt with
      | false => simp; omega
      | true => simp at hgo ⊢; omega
    clear hgo hn
    rcases hno with x1 | ⟨x1, x2⟩ | ⟨x1, x2, x3⟩ | ⟨x1, x2, x3, x4⟩ | ⟨x1, x2, x3, x4, x5⟩ | ⟨x1, x2, x3, x4, x5, x6⟩ | ⟨x1, x2, x3, x4, x5, x6, rfl⟩ | ⟨x1, x2, x3, x4, x5, x6, rfl, x8⟩
    all_goals
      go_enter Try.func21, Try.ntmps21
      go_upto_region 1 with fail
      rw [HWA.out]
      clear HWA
      go_wp2_with fail
      refine HT.out.mono ?_
      rintro e w' ⟨rfl, rfl⟩
      go_wp2
      go_ret
      exact ⟨rfl, HBWA.out⟩
  obtain ⟨⟨g1, g2, g3, g4, g5, g6⟩, rfl, g8⟩ := hgo
  have HBV : Hid (b = true ↔ seenOk m ws n) := Lib.hid (by rw [← HSA.out, ← hb]; simp [g1, g2, g3, g4, g5, g6, g8])
  clear hb HSA
  have x1 : ¬ p < 1 := by omega
  have v1 : decide (p < 1) = false := decide_eq_false x1
  have x2 : ¬ 1048576 < p := by omega
  have v2 : decide (1048576 < p) = false := decide_eq_false x2
  have x3 : ¬ m < 0 := by omega
  have v3 : decide (m < 0) = false := decide_eq_false x3
  have x4 : ¬ 20 < m := by omega
  have v4 : decide (20 < m) = false := decide_eq_false x4
  have x5 : ¬ q < 1 := by omega
  have v5 : decide (q < 1) = false := decide_eq_false x5
  have x6 : ¬ 1048576 < q := by omega
  have v6 : decide (1048576 < q) = false := decide_eq_false x6
  have x8 : ¬ (8 : Int) < (n : Int) := by omega
  have v8 : decide ((8 : Int) < (n : Int)) = false := decide_eq_false x8
  clear g1 g2 g3 g4 g5 g6
  go_enter Try.func21, Try.ntmps21
  go_upto_region 1 with fail
  rw [HWA.out]
  clear HWA
  go_wp2_with fail
  refine HT.out.mono ?_
  rintro e w' ⟨rfl, rfl⟩
  clear HT
  go_upto_region 4 with fail
  clear x1 x2 x3 x4 x5 x6 x8 v1 v2 v3 v4 v5 v6 v8 c0 c1 c2 c3 c4
  go_wp2
  go_loopg [4] n (fun kk v wl => ∃ j : Nat, j ≤ n ∧ n - j ≤ kk ∧ v = .int .i64 j ∧ seenOk m ws j ∧ Below wa.heap.size wa wl)
  case atStart => exact ⟨0, by omega, by omega, rfl, seen_zero _ _, Below.refl _ _⟩
  case round =>
    obtain ⟨j, hj, hjk, rfl, hso, hbl⟩ := hrel
    have HSO := Lib.hid hso; have HBL := Lib.hid hbl
    have hlk := HH.out wr hbl
    have c4 : wr.cell? ⟨w.heap.size, 4, none⟩ = some (.slice A n c) := hlk.cell 4
    clear hso hbl hlk
    by_cases hlt : j < n
    rotate_left
    · obtain rfl : j = n := by omega
      have hbt : b = true := HBV.out.2 HSO.out
      have x1 : ¬ (j : Int) < j := by omega
      have HBF := Lib.hid (HBWA.out.trans (HBL.out.mono HBWA.out.size))
      clear HBV HSO HW HH HBWA HBL
      go_wp2
      go_ret
      exact ⟨by first | rfl | rw [hbt], HBF.out⟩
    obtain ⟨x, hx⟩ : ∃ x, ws[j]? = some x := ⟨_, List.getElem?_eq_getElem (by omega)⟩
    obtain ⟨bk, off, v, rfl, hbody, d0, d1, d2, d3⟩ := (HW.out.under HBL.out).at_ hx
    have HX := Lib.hid hx
    obtain ⟨T, due, tries, body⟩ := x
    dsimp only at d0 d1 d2 d3 hbody
    obtain ⟨BA, bc, rfl, _, _⟩ := hbody
    have y0 : (0 : Int) ≤ j := by omega
    have y1 : (j : Int) < n := by omega
    clear hx
    obtain ⟨wx, hwx⟩ : ∃ wx, wr.alloc (.cells #[.int .i64 T, .int .i64 due, .int .i64 tries, .slice BA body.length bc] 48) = wx := ⟨_, rfl⟩
    have hx5 : Has wx wr.heap.size 48 #[.int .i64 T, .int .i64 due, .int .i64 tries, .slice BA body.length bc] := by rw [← hwx]; exact Has.made _ _ _
    have hbx : Below wr.heap.size wr wx := by rw [← hwx]; exact (Below.refl _ _).alloc (Nat.le_refl _) _
    have HWX := Lib.hid hwx
    have HBX := Lib.hid (HBL.out.trans (hbx.mono HBL.out.size))
    have hlk := HH.out wx HBX.out
    have k0 : wx.cell? ⟨wr.heap.size, 0, none⟩ = some (.int .i64 T) := hx5.cell 0
    have k1 : wx.cell? ⟨wr.heap.size, 1, none⟩ = some (.int .i64 due) := hx5.cell 1
    have k2 : wx.cell? ⟨wr.heap.size, 2, none⟩ = some (.int .i64 tries) := hx5.cell 2
    have k3 : wx.cell? ⟨wr.heap.size, 3, none⟩ = some (.slice BA body.length bc) := hx5.cell 3
    have e1 : wx.cell? ⟨w.heap.size, 1, none⟩ = some (.int .i64 m) := hlk.cell 1
    have e4 : wx.cell? ⟨w.heap.size, 4, none⟩ = some (.slice (some ⟨bk, off, none⟩) n c) := hlk.cell 4
    have HTT := Lib.hid (rtime_any T wx)
    have HSS := Lib.hid (rsized_any BA bc body wx)
    have HBF := Lib.hid (HBWA.out.trans (HBX.out.mono HBWA.out.size))
    have HOK : Hid (okW m ⟨T, due, tries, body⟩ = (isT T && okB body && (decide (0 ≤ due) && (decide (due ≤ 8589934592) && (decide (0 ≤ tries) && decide (tries ≤ m)))))) := Lib.hid rfl
    clear hwx hx5 hbx hlk
    go_upto_region 8 with fail
    rw [HWX.out]
    clear HWX c4 d0 d1 d2 d3
    go_wp2_with fail
    refine HTT.out.mono ?_
    rintro e w' ⟨rfl, rfl⟩
    go_wp2_with fail
    refine HSS.out.mono ?_
    rintro e w' ⟨rfl, rfl⟩
    generalize isT T = b1 at *
    generalize okB body = b2 at *
    clear HTT HSS
    go_upto_region 10 with fail
    cases b1 with
    | false =>
      have hbf : b = false := by
        cases b with
        | false => rfl
        | true => exact absurd (HBV.out.1 rfl) (hn ▸ (seen_bad HX.out (by rw [HOK.out]; simp [])))
      clear HBV HSO HOK
      go_quiet (fail)
      go_wp2
      go_ret
      exact ⟨by first | (rw [hbf]; done) | (rw [hbf]; rfl) | rfl, below_draws HBF.out _⟩
    | true =>
    cases b2 with
    | false =>
      have hbf : b = false := by
        cases b with
        | false => rfl
        | true => exact absurd (HBV.out.1 rfl) (hn ▸ (seen_bad HX.out (by rw [HOK.out]; simp [])))
      clear HBV HSO HOK
      go_quiet (fail)
      go_wp2
      go_ret
      exact ⟨by first | (rw [hbf]; done) | (rw [hbf]; rfl) | rfl, below_draws HBF.out _⟩
    | true =>
    by_cases h1 : due < 0
    · have h1d : decide (due < 0) = true := decide_eq_true h1
      have h1n : ¬ (0 ≤ due) := by omega
      have hbf : b = false := by
        cases b with
        | false => rfl
        | true => exact absurd (HBV.out.1 rfl) (hn ▸ (seen_bad HX.out (by rw [HOK.out]; simp [h1n])))
      clear HBV HSO HOK
      go_quiet (fail)
      go_wp2
      go_ret
      exact ⟨by first | (rw [hbf]; done) | (rw [hbf]; rfl) | rfl, below_draws HBF.out _⟩
    have h1d : decide (due < 0) = false := decide_eq_false h1
    by_cases h2 : 8589934592 < due
    · have h2d : decide (8589934592 < due) = true := decide_eq_true h2
      have h2n : ¬ (due ≤ 8589934592) := by omega
      have hbf : b = false := by
        cases b with
        | false => rfl
        | true => exact absurd (HBV.out.1 rfl) (hn ▸ (seen_bad HX.out (by rw [HOK.out]; simp [h2n])))
      clear HBV HSO HOK
      go_quiet (fail)
      go_wp2
      go_ret
      exact ⟨by first | (rw [hbf]; done) | (rw [hbf]; rfl) | rfl, below_draws HBF.out _⟩
    have h2d : decide (8589934592 < due) = false := decide_eq_false h2
    by_cases h3 : tries < 0
    · have h3d : decide (tries < 0) = true := decide_eq_true h3
      have h3n : ¬ (0 ≤ tries) := by omega
      have hbf : b = false := by
        cases b with
        | false => rfl
        | true => exact absurd (HBV.out.1 rfl) (hn ▸ (seen_bad HX.out (by rw [HOK.out]; simp [h3n])))
      clear HBV HSO HOK
      go_quiet (fail)
      go_wp2
      go_ret
      exact ⟨by first | (rw [hbf]; done) | (rw [hbf]; rfl) | rfl, below_draws HBF.out _⟩
    have h3d : decide (tries < 0) = false := decide_eq_false h3
    by_cases h4 : m < tries
    · have h4d : decide (m < tries) = true := decide_eq_true h4
      have h4n : ¬ (tries ≤ m) := by omega
      have hbf : b = false := by
        cases b with
        | false => rfl
        | true => exact absurd (HBV.out.1 rfl) (hn ▸ (seen_bad HX.out (by rw [HOK.out]; simp [h4n])))
      clear HBV HSO HOK
      go_quiet (fail)
      go_wp2
      go_ret
      exact ⟨by first | (rw [hbf]; done) | (rw [hbf]; rfl) | rfl, below_draws HBF.out _⟩
    have h4d : decide (m < tries) = false := decide_eq_false h4
    have hokx : okW m ⟨T, due, tries, body⟩ = true := by rw [HOK.out]; simp; omega
    clear HOK
    cases j with
    | zero =>
      have y2 : ¬ (0 : Int) < ((0 : Nat) : Int) := by omega
      have y3 : decide ((0 : Int) < ((0 : Nat) : Int)) = false := decide_eq_false y2
      have HN := Lib.hid (seen_first HX.out hokx)
      clear HSO hokx HBV
      go_quiet (fail)
      go_wp2
      go_roundg (gk - 1)
      case measure => omega
      case rel => exact ⟨1, by omega, by omega, by go_num, HN.out, below_draws HBX.out _⟩
    | succ i =>
      obtain ⟨y, hy⟩ : ∃ y, ws[i]? = some y := ⟨_, List.getElem?_eq_getElem (by omega)⟩
      obtain ⟨_, _, _, he, _, f0, _, _, _⟩ := (HW.out.under HBX.out).at_ hy
      injection he with he
      injection he with he1 he2 _
      subst he1 he2
      have HY := Lib.hid hy
      obtain ⟨T2, due2, tries2, body2⟩ := y
      dsimp only at f0
      have z0 : (0 : Int) ≤ i := by omega
      have z1 : (i : Int) < n := by omega
      have z2 : wrap64 (((i + 1 : Nat) : Int) - 1) = (i : Int) := by rw [show (((i + 1 : Nat) : Int) - 1) = (i : Int) by omega]; exact IntWalk.wrap64_in _ (by omega)
      have y2 : (0 : Int) < ((i + 1 : Nat) : Int) := by omega
      have y3 : decide ((0 : Int) < ((i + 1 : Nat) : Int)) = true := decide_eq_true y2
      clear hy
      by_cases h5 : T ≤ T2
      · have h5d : decide (T ≤ T2) = true := decide_eq_true h5
        have hbf : b = false := by
          cases b with
          | false => rfl
          | true => exact absurd (HBV.out.1 rfl) (hn ▸ (seen_low HY.out HX.out h5))
        clear HBV HSO
        go_quiet (fail)
        go_wp2
        go_ret
        exact ⟨by first | (rw [hbf]; done) | (rw [hbf]; rfl) | rfl, below_draws HBF.out _⟩
      have h5d : decide (T ≤ T2) = false := decide_eq_false h5
      have HN := Lib.hid (seen_next HSO.out HY.out HX.out hokx (by dsimp only; omega))
      clear HSO hokx HBV HY
      go_quiet (fail)
      go_wp2
      go_roundg (gk - 1)
      case measure => omega
      case rel => exact ⟨i + 2, by omega, by omega, by go_num, HN.out, below_draws HBX.out _⟩
end Go.Proofs.Ytbohoejikihnfaa
