/-
  package link as landed: isLost: slices.ContainsFunc, slices.IndexFunc, and its question.
-/
import Derived.Test.YtbohoejikihnfaaLkOC

namespace Go.Proofs.Ytbohoejikihnfaa

open Go.RowKit

open Go.Great

set_option maxRecDepth 100000 in
set_option maxHeartbeats 8000000 in
theorem olq_any (l : L0) (x : W0) (v : Value) (now : Int) (gn gl : Nat) (w : World) (hn : w.cell? ⟨gn, 0, none⟩ = some (.int .i64 now)) (hl : w.cell? ⟨gl, 1, none⟩ = some (.int .i64 l.most)) :
    Calls Try.prog 47 #[.agg (wtA x v), .pointer (some ⟨gn, 0, none⟩), .pointer (some ⟨gl, 0, none⟩)] w fun e w' => e = .returned (.bool (overB l now x)) ∧ Below w.heap.size w w' := by
  obtain ⟨wa, hwa⟩ : ∃ wa, w.alloc (.cells (wtA x v) 48) = wa := ⟨_, rfl⟩
  have hbwa : Below w.heap.size w wa := by rw [← hwa]; exact (Below.refl _ _).alloc (Nat.le_refl _) _
  have h0 : Has wa w.heap.size 48 (wtA x v) := by rw [← hwa]; exact Has.made _ _ _
  have HWA := Lib.hid hwa; have HB := Lib.hid hbwa; have H0 := Lib.hid h0
  have c0 : wa.cell? ⟨w.heap.size, 0, none⟩ = some (.int .i64 x.t) := h0.cell 0
  have c1 : wa.cell? ⟨w.heap.size, 1, none⟩ = some (.int .i64 x.due) := h0.cell 1
  have c2 : wa.cell? ⟨w.heap.size, 2, none⟩ = some (.int .i64 x.tries) := h0.cell 2
  have c3 : wa.cell? ⟨w.heap.size, 3, none⟩ = some v := h0.cell 3
  have n0 : wa.cell? ⟨gn, 0, none⟩ = some (.int .i64 now) := (hbwa.cell (cell_block hn)).trans hn
  have l1 : wa.cell? ⟨gl, 1, none⟩ = some (.int .i64 l.most) := (hbwa.cell (cell_block hl)).trans hl
  have H := Lib.hid (oldue_any x v now wa)
  have KC : Hid (∀ W, Below wa.heap.size wa W → ∀ a u, wa.cell? a = some u → W.cell? a = some u) := Lib.hid fun W hW a u ha => (hW.cell (cell_block ha)).trans ha
  unfold overB
  clear hwa hbwa h0 hn hl
  obtain ⟨T, due, tries, body⟩ := x
  obtain ⟨p, m, q, h, ws⟩ := l
  unfold wtA at *
  dsimp only at *
  generalize decide (due ≤ now) = b at *
  cases b with
  | false =>
    go_enter Try.func47, Try.ntmps47
    go_upto_region 1 with fail
    rw [HWA.out]
    clear HWA
    go_wp2_with fail
    refine H.out.mono ?_
    rintro e w1 ⟨rfl, hb1⟩
    have HB1 := Lib.hid (HB.out.trans (hb1.mono HB.out.size))
    clear hb1 c0 c1 c2 c3 n0 l1
    go_wp2
    go_ret
    exact ⟨rfl, HB1.out⟩
  | true =>
    obtain ⟨b2, hb2⟩ : ∃ b2, (tries == m) = b2 := ⟨_, rfl⟩
    rw [hb2]
    go_enter Try.func47, Try.ntmps47
    go_upto_region 1 with fail
    rw [HWA.out]
    clear HWA
    go_wp2_with fail
    refine H.out.mono ?_
    rintro e w1 ⟨rfl, hb1⟩
    have HB1 := Lib.hid (HB.out.trans (hb1.mono HB.out.size))
    have d2 := KC.out w1 hb1 _ _ c2
    have d1 := KC.out w1 hb1 _ _ l1
    clear hb1 c0 c1 c2 c3 n0 l1
    go_wp2
    go_ret
    exact ⟨by first | rfl | (rw [Bool.true_and]; done) | simp, HB1.out⟩

set_option maxRecDepth 100000 in
set_option maxHeartbeats 8000000 in
theorem oidx_any {P : Nat → Prop} (l : L0) (A : Option Addr) (c n : Nat) (now : Int) (gn gl : Nat) (w : World) (hw : WsR P w A n c l.ws) (hbig : n ≤ 1048576) (hn : w.cell? ⟨gn, 0, none⟩ = some (.int .i64 now)) (hl : w.cell? ⟨gl, 1, none⟩ = some (.int .i64 l.most)) :
    Calls Try.prog 52 #[.slice A n c, .func (.func 47) #[] #[.pointer (some ⟨gn, 0, none⟩), .pointer (some ⟨gl, 0, none⟩)]] w fun e w' => (∃ i : Int, e = .returned (.int .i64 i) ∧ (0 ≤ i ↔ l.ws.any (overB l now) = true)) ∧ Below w.heap.size w w' := by
  have HN := Lib.hid hw.len
  have HW := Lib.hid hw
  have HE := Lib.hid (fun x v W (hW : Below w.heap.size w W) => olq_any l x v now gn gl W ((hW.cell (cell_block hn)).trans hn) ((hW.cell (cell_block hl)).trans hl))
  clear hw hn hl
  unfold wtA at HE
  have x0 : (0 : Int) ≤ n := by omega
  obtain ⟨bb, hbb⟩ : ∃ bb, l.ws.any (overB l now) = bb := ⟨_, rfl⟩
  have HBB := Lib.hid hbb
  rw [hbb]
  clear hbb
  go_enter Try.func52, Try.ntmps52
  go_wp2
  go_loopg [8] n (fun kk v wl => ∃ j : Nat, j ≤ n ∧ n - j ≤ kk ∧ v = .int .i64 j ∧ Hid (∀ i x, i < j → l.ws[i]? = some x → overB l now x = false) ∧ Hid (Below w.heap.size w wl))
  case atStart => exact ⟨0, by omega, by omega, rfl, Lib.hid fun i x h => absurd h (by omega), Lib.hid (Below.refl _ _)⟩
  case round =>
    obtain ⟨j, hj, hjk, rfl, HNO, HBL⟩ := hrel
    by_cases hlt : j < n
    · obtain ⟨x, hx⟩ : ∃ x, l.ws[j]? = some x := ⟨_, List.getElem?_eq_getElem (by rw [HN.out]; omega)⟩
      obtain ⟨bk, off, v, rfl, _, d0, d1, d2, d3⟩ := (HW.out.under HBL.out).at_ hx
      have HX := Lib.hid hx
      have y0 : (0 : Int) ≤ j := by omega
      have y1 : (j : Int) < n := by omega
      have HC := Lib.hid (HE.out x v wr HBL.out)
      clear hx
      generalize hb : overB l now x = b at *
      have HBE := Lib.hid hb
      clear hb
      cases b with
      | true =>
        have HF : Hid (bb = true) := Lib.hid (by rw [← HBB.out]; exact List.any_eq_true.2 ⟨x, List.mem_of_getElem? HX.out, HBE.out⟩)
        go_upto_region 4 with fail
        go_wp2_with fail
        refine HC.out.mono ?_
        rintro e w1 ⟨rfl, hb1⟩
        have HB1 := Lib.hid (HBL.out.trans (hb1.mono HBL.out.size))
        clear hb1 d0 d1 d2 d3 HBE HNO
        go_wp2
        go_ret
        exact ⟨⟨j, rfl, ⟨fun _ => HF.out, fun _ => by omega⟩⟩, HB1.out⟩
      | false =>
        go_upto_region 4 with fail
        go_wp2_with fail
        refine HC.out.mono ?_
        rintro e w1 ⟨rfl, hb1⟩
        have HB1 := Lib.hid (HBL.out.trans (hb1.mono HBL.out.size))
        have HN2 : Hid (∀ i y, i < j + 1 → l.ws[i]? = some y → overB l now y = false) := Lib.hid fun i y hi hy => by
          by_cases h : i = j
          · subst h; rw [HX.out] at hy; cases hy; exact HBE.out
          · exact HNO.out i y (by omega) hy
        clear hb1 d0 d1 d2 d3 HBE HNO
        go_wp2
        go_roundg (gk - 1)
        case measure => omega
        case rel => exact ⟨j + 1, by omega, by omega, by go_num, HN2, HB1⟩
    · have y1 : ¬ (j : Int) < n := by omega
      have HF : Hid (¬ bb = true) := Lib.hid (by
        rw [← HBB.out]
        intro h
        obtain ⟨x, hx, e⟩ := List.any_eq_true.1 h
        obtain ⟨i, hi, rfl⟩ := List.getElem_of_mem hx
        have hn := HN.out
        have := HNO.out i _ (by omega) (List.getElem?_eq_getElem hi)
        rw [this] at e
        cases e)
      go_wp2
      go_ret
      exact ⟨⟨-1, rfl, ⟨fun h => absurd h (by decide), fun h => absurd h HF.out⟩⟩, HBL.out⟩

set_option maxRecDepth 100000 in
set_option maxHeartbeats 8000000 in
theorem ocont_any {P : Nat → Prop} (l : L0) (A : Option Addr) (c n : Nat) (now : Int) (gn gl : Nat) (w : World) (hw : WsR P w A n c l.ws) (hbig : n ≤ 1048576) (hn : w.cell? ⟨gn, 0, none⟩ = some (.int .i64 now)) (hl : w.cell? ⟨gl, 1, none⟩ = some (.int .i64 l.most)) :
    Calls Try.prog 46 #[.slice A n c, .func (.func 47) #[] #[.pointer (some ⟨gn, 0, none⟩), .pointer (some ⟨gl, 0, none⟩)]] w fun e w' => e = .returned (.bool (l.ws.any (overB l now))) ∧ Below w.heap.size w w' := by
  have H := Lib.hid (oidx_any l A c n now gn gl w hw hbig hn hl)
  clear hw hn hl
  generalize l.ws.any (overB l now) = b at *
  go_enter Try.func46, Try.ntmps46
  go_wp2_with fail
  refine H.out.mono ?_
  rintro e w1 ⟨⟨i, rfl, hi⟩, hb1⟩
  have HI := Lib.hid hi
  have HB1 := Lib.hid hb1
  clear hi hb1 H
  go_wp2
  go_ret
  exact ⟨congrArg (fun q => Ending.returned (Value.bool q)) (bool_dec11 HI.out.symm).symm, HB1.out⟩

set_option maxRecDepth 100000 in
set_option maxHeartbeats 8000000 in
theorem olost_any {P : Nat → Prop} (l : L0) (A : Option Addr) (c : Nat) (now : Int) (w : World) (hw : WsR P w A l.ws.length c l.ws) (hbig : l.ws.length ≤ 1048576) (hq : l.quiet ≤ 1048576 ∧ 1 ≤ l.quiet ∧ 0 ≤ l.heard ∧ l.heard ≤ 4294967294) :
    Calls Try.prog 35 #[.agg (lkC l A c), .int .i64 now] w fun e w' => e = .returned (.bool (lostB l now)) ∧ Below w.heap.size w w' := by
  obtain ⟨wa, hwa⟩ : ∃ wa, (w.alloc (.cells (lkC l A c) 24)).alloc (.cells #[.int .i64 now] 3) = wa := ⟨_, rfl⟩
  have hbwa : Below w.heap.size w wa := by rw [← hwa]; exact ((Below.refl _ _).alloc (Nat.le_refl _) _).alloc (by simp) _
  have h0 : Has wa w.heap.size 24 (lkC l A c) := by rw [← hwa]; exact (Has.made _ _ _).beside _
  have h1 : Has wa (w.heap.size + 1) 3 #[.int .i64 now] := by rw [← hwa]; exact has_at11 (by simp)
  have HWA := Lib.hid hwa; have HB := Lib.hid hbwa
  have c1 : wa.cell? ⟨w.heap.size, 1, none⟩ = some (.int .i64 l.most) := h0.cell 1
  have c2 : wa.cell? ⟨w.heap.size, 2, none⟩ = some (.int .i64 l.quiet) := h0.cell 2
  have c3 : wa.cell? ⟨w.heap.size, 3, none⟩ = some (.int .i64 l.heard) := h0.cell 3
  have c4 : wa.cell? ⟨w.heap.size, 4, none⟩ = some (.slice A l.ws.length c) := h0.cell 4
  have n0 : wa.cell? ⟨w.heap.size + 1, 0, none⟩ = some (.int .i64 now) := h1.cell 0
  have H := Lib.hid (ocont_any l A c l.ws.length now (w.heap.size + 1) w.heap.size wa (hw.under hbwa) hbig n0 c1)
  unfold lostB
  clear hwa hbwa h0 h1 hw
  generalize l.ws.any (overB l now) = b at *
  obtain ⟨p, m, q, h, ws⟩ := l
  unfold lkC at *
  dsimp only at *
  have hr : wrap64 (h + q) = h + q := IntWalk.wrap64_in _ (by omega)
  obtain ⟨s, hs⟩ : ∃ s, h + q = s := ⟨_, rfl⟩
  rw [hs] at hr ⊢
  obtain ⟨n, hn⟩ : ∃ n, ws.length = n := ⟨_, rfl⟩
  rw [hn] at HWA H c4 hbig
  rw [hn]
  have hr2 : IntKind.i64.wrap (h + q) = s := by rw [← hs, IntKind.wrap_i64]; omega
  clear hs hn
  by_cases h1 : s < now
  · rw [decide_eq_true h1, Bool.true_or]
    go_enter Try.func35, Try.ntmps35
    go_upto_region 1 with fail
    rw [HWA.out]
    clear HWA
    go_wp2
    go_ret
    exact ⟨rfl, HB.out⟩
  · rw [decide_eq_false h1, Bool.false_or]
    go_enter Try.func35, Try.ntmps35
    go_upto_region 1 with fail
    rw [HWA.out]
    clear HWA
    go_wp2_with fail
    refine H.out.mono ?_
    rintro e w1 ⟨rfl, hb1⟩
    have HB1 := Lib.hid (HB.out.trans (hb1.mono HB.out.size))
    clear hb1 c1 c2 c3 c4 n0
    go_wp2
    go_ret
    exact ⟨rfl, HB1.out⟩
end Go.Proofs.Ytbohoejikihnfaa
