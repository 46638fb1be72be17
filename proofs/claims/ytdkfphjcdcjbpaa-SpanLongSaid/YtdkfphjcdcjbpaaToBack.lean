/-
  package topo as landed: Back: a range over slices.Backward.
-/
import Derived.Test.YtdkfphjcdcjbpaaToC

import Derived.LoopIn

import Derived.IntWalk

import Derived.RangeFuncNested

import Derived.RangeFuncBound

import Derived.RangeFuncCalls

import Derived.RangeFuncLeaves

import Derived.RangeFuncBox

import Derived.Sort.MapsRangeIn

import Derived.Shelf.Abstract

import Derived.Shelf.AbstractIn

import Derived.Shelf.RegionOpen

namespace Go.Proofs.Ytdkfphjcdcjbpaa

open Go.RowKit Go.Shelf

attribute [local go_sem] Oper.semAt_some

/-- A range over a function whose round lays one block for its variable ahead of the body. -/
theorem wpIn_range14 {F : Fence} {n : Nat} {P : Program} {α : Type} {g : Operand} {ps : Array Tmp} {assign body : Code} {Q : Exit → Act → World → Prop} {a : Act} {w : World}
    (hro : F.round = none) (h1 : 1 ≤ n) {gf : Nat} {lb : Array Value} (hg : a.eval g = .func (.func gf) #[] lb) (hFg : F.fn gf) (eg : ∀ args w, (callFunc gf args).run P w = .ok (.enter gf args) w)
    {encs : α → Array Value} {Kp : World → World → Prop} {S : List α → Prop} {N : Nat} {w0 : World} (hseq : SeqStopsK F (n - 1) P gf lb encs Kp S (fun _ => True) N w0)
    (hKt : ∀ {A B C : World}, Kp A B → Kp B C → Kp A C) (hKb : ∀ (W : World) (l : Nat) (o o' : Obj), w.heap.size ≤ l → W.heap[l]? = some o → o.isCells = false → o.isWalk = false → Kp W (W.putObj l o')) (hKa : ∀ (W : World) (o : Obj), w.heap.size ≤ W.heap.size → Kp W (W.alloc o))
    (hb0 : Below w0.heap.size w0 w) (hps : ∀ x, (encs x).size = ps.size)
    (I : List α → World → Prop) (hI : OwnFrom w.heap.size I) (h0 : I [] w) (ob : α → Obj) (a₁ : α → Nat → Act)
    (hassign : ∀ (l : Nat) (x : α) (W : World) (K : Act → World → Prop), K (a₁ x W.heap.size) (W.alloc (ob x)) →
      assign.wpIn (F.inRound l) (n - 1 - 1) P (Exit.then K (fun _ _ _ => False)) { tmps := (ps.zip (encs x)).foldl (fun t (p, v) => t.setIfInBounds p v) a.tmps, defers := [] } W)
    (hbody : ∀ (l : Nat) (pre : List α) (x : α) (v : Nat) (W : World), I pre W → W.heap[v]? = some (ob x) → w.heap.size ≤ v → pre.length < N → body.wpIn (F.inRound l) (n - 1 - 1) P (ownPostK Kp I (fun _ _ _ => False) (pre ++ [x]) W) (a₁ x v) W)
    (hdone : ∀ (D : Nat) (xs : List α) (W : World), w.heap.size ≤ D → S xs → I xs W → W.heap[D]? = some (.deferred (some [])) → Q .normal { a with defers := { target := .collected D, args := #[] } :: a.defers } W) :
    (Code.rangeFunc g ps assign body).wpIn F n P Q a w := by
  refine wpIn_rangeFunc ?_
  intro fn hfn
  rw [hro]
  obtain ⟨rec, hrec⟩ : ∃ rec : LoopState → Option Code → Loop, rec = fun st pe => { state := st, pending := pe, fn, tmps := a.tmps, params := ps, assign, body, defers := w.heap.size } := ⟨_, rfl⟩
  obtain ⟨W1, hW1⟩ : ∃ W1, (w.alloc (.deferred (some []))).alloc (.loop (rec .ready none)) = W1 := ⟨_, rfl⟩
  have hL1 : W1.heap[w.heap.size + 1]? = some (.loop (rec .ready none)) := by
    rw [← hW1]; have := World.alloc_heap_new (w.alloc (.deferred (some []))) (.loop (rec .ready none)); rwa [World.size_alloc] at this
  have hK1 : W1.heap[w.heap.size]? = some (.deferred (some [])) := by
    rw [← hW1]; exact (Below.heap_alloc _ _ _ (by simp)).trans (World.alloc_heap_new w _)
  have hI1 : I [] W1 := by rw [← hW1]; exact hI.alloc _ (hI.alloc _ h0)
  have hb1 : Below w0.heap.size w0 W1 := by
    rw [← hW1]; exact hb0.trans ((((Below.refl _ w).alloc (Nat.le_refl _) _).alloc (by simp) _).mono hb0.size)
  refine ⟨w.heap.size + 1, [{ target := .collected w.heap.size, args := #[] }], W1, { target := .fn (.func gf) lb, args := #[.func (.yield (w.heap.size + 1)) #[] #[]] }, W1, gf,
    #[.func (.yield (w.heap.size + 1)) #[] #[]] ++ lb, W1, ?_, ?_, ?_, ?_, fun _ => h1, ?_⟩
  · rw [← hW1, hrec]; exact run_enterLoop_outer _ _ _ _ _
  · simp only [resolve, hg]
    simp [go_sem]
  · intro f' hf'; simp [Target.leads] at hf'; subst hf'; exact hFg
  · simp [invoke, go_sem, eg]
  · have hnw : ∀ {A B : World} {row : Option Nat}, (∀ r, row = some r → W1.heap.size ≤ r ∧ ∃ o : Obj, A.heap[r]? = some o ∧ o.isWalk = true) → (∀ r, row = some r → w.heap.size ≤ r ∧ ∃ o : Obj, A.heap[r]? = some o ∧ o.isCells = false) :=
      fun hr r e => by obtain ⟨hB, o, ho, hw⟩ := hr r e; exact ⟨by rw [← hW1] at hB; simp at hB; omega, o, ho, Obj.not_cells_of_walk hw⟩
    refine (hseq (w.heap.size + 1)
      (fun pre W => I pre W ∧ W.heap[w.heap.size + 1]? = some (.loop (rec .ready none)) ∧ W.heap[w.heap.size]? = some (.deferred (some [])))
      (fun _ _ => False)
      W1 hb1
      (fun s A B row hs hg' hr => ⟨hI s A B row hs.1 hg' (hnw (B := B) hr), (grownBy_keeps hg' (fun r e => (hr r e).2) hs.2.1 rfl).trans hs.2.1, (grownBy_keeps hg' (fun r e => (hr r e).2) hs.2.2 rfl).trans hs.2.2⟩)
      (fun _ _ _ _ hs _ _ => hs)
      ?_ ⟨hI1, hL1, hK1⟩).mono ?_
    · rintro pre x W ⟨hi, hl, hk⟩ hlen
      have hlt : w.heap.size + 1 < W.heap.size := (Array.getElem?_eq_some_iff.1 hl).1
      have hy := run_yield (P := P) (args := encs x) hl (by rw [hrec]; exact hps x)
      rw [hrec] at hy
      obtain ⟨WA, hWA⟩ : ∃ WA, W.alloc (ob x) = WA := ⟨_, rfl⟩
      have hlA : WA.heap[w.heap.size + 1]? = some (.loop (rec .ready none)) := by rw [← hWA]; exact (Below.heap_alloc _ _ _ hlt).trans hl
      have hkA : WA.heap[w.heap.size]? = some (.deferred (some [])) := by rw [← hWA]; exact (Below.heap_alloc _ _ _ (by omega)).trans hk
      have hiA : I pre WA := by rw [← hWA]; exact hI.alloc _ hi
      have hvA : WA.heap[W.heap.size]? = some (ob x) := by rw [← hWA]; exact World.alloc_heap_new W _
      have hwA : Kp W WA := by rw [← hWA]; exact hKa W _ (by omega)
      have hltA : w.heap.size + 1 < WA.heap.size := (Array.getElem?_eq_some_iff.1 hlA).1
      refine ⟨fn, _, assign, body, hy, roundIn_of_wpIn hfn (hassign _ x W _ ?_)⟩
      rw [hWA]
      refine ⟨_, run_beginRound hlA (by rw [hrec]), ?_⟩
      have hl2 : (WA.putObj (w.heap.size + 1) (.loop { rec .ready none with state := .busy })).heap[w.heap.size + 1]? = some (.loop { rec .ready none with state := .busy }) := World.putObj_heap_same hltA
      have hk2 : (WA.putObj (w.heap.size + 1) (.loop { rec .ready none with state := .busy })).heap[w.heap.size]? = some (.deferred (some [])) := (World.putObj_heap_other (by omega)).trans hkA
      have hv2 : (WA.putObj (w.heap.size + 1) (.loop { rec .ready none with state := .busy })).heap[W.heap.size]? = some (ob x) := (World.putObj_heap_other (by omega)).trans hvA
      have hw2 : Kp WA (WA.putObj (w.heap.size + 1) (.loop { rec .ready none with state := .busy })) := hKb WA _ _ _ (by omega) hlA rfl rfl
      refine wpIn_mono (hbody _ pre x W.heap.size _ (hI.putObj _ hiA (by omega) hlA rfl) hv2 (by omega) hlen) ?_
      rintro e a3 W3 hp
      cases e with
      | normal =>
        obtain ⟨hk3, hkp3, hi3⟩ := hp
        have hl3 := hk3.same _ _ hl2 rfl
        have hr := run_endRound (P := P) none hl3
        rw [hrec] at hr hl3
        refine ⟨_, _, hr, .inl ⟨rfl, ⟨hI.putObj _ hi3 (by omega) hl3 rfl, ?_, (World.putObj_heap_other (by omega)).trans (hk3.same _ _ hk2 rfl)⟩, hKt (hKt hwA (hKt hw2 hkp3)) (hKb W3 _ _ _ (by omega) hl3 rfl rfl)⟩⟩
        rw [hrec]
        exact World.putObj_heap_same (Array.getElem?_eq_some_iff.1 hl3).1
      | ret => exact hp.2.elim
      | exit id => exact hp.2.elim
      | goto t => exact hp.2.elim
      | panic ch => exact hp.elim
      | outgrown => exact hp.elim
    · rintro e W2 ⟨⟨v, rfl⟩, (⟨xs, hS, hi, hl, hk⟩ | ⟨pre, _, h⟩)⟩
      · exact ⟨none, _, by have := run_endLoop (P := P) hl (by rw [hrec]; simp); rw [hrec] at this; exact this, hdone _ xs _ (Nat.le_refl _) hS (hI.putObj _ hi (by omega) hl rfl) ((World.putObj_heap_other (by omega)).trans hk)⟩
      · exact h.elim


def encB14 (p : Int × St3) : Array Value := #[.int .i64 p.1, .agg (stA13 p.2)]
theorem drop_rev14 {path : List St3} {k : Nat} {x : St3} (hx : path[k]? = some x) : (path.drop k).reverse = (path.drop (k + 1)).reverse ++ [x] := by
  obtain ⟨h1, e⟩ := List.getElem?_eq_some_iff.1 hx
  rw [List.drop_eq_getElem_cons h1, e, List.reverse_cons]
set_option maxRecDepth 100000 in
set_option maxHeartbeats 4000000 in
theorem otbackw_stops (m : Nat) (hm1 : 1 ≤ m) (Bm n c : Nat) (A : Option Addr) (path : List St3) (w wq : World) (hn : n ≤ 1048576) (hwq : Below w.heap.size w wq) (hb : Has wq Bm 34 #[.slice A n c]) (hp : SlO stC 2 w A n c path) :
    SeqStopsK Fence.wide m Try.prog 61 #[.pointer (some ⟨Bm, 0, none⟩)] encB14 (fun V V' => Below w.heap.size V V' ∧ (Has V Bm 34 #[.slice A n c] → Has V' Bm 34 #[.slice A n c])) (fun ss => ss.map (·.2) = path.reverse) (fun _ => True) n wq := fun l J Jx W hW hJ hJx hY h0 => by
  refine callsIn_of_wp Try.func61 rfl trivial ?_ rfl
  simp only [Try.ntmps61, List.size_toArray, List.length_cons, List.length_nil, Nat.reduceAdd, Nat.reduceSub, Array.replicate_succ, Array.replicate_zero, List.push_toArray, List.append_toArray, List.nil_append, List.cons_append]
  have hBW := hwq.trans (hW.mono hwq.size)
  have hbW := hb.under hW hb.lt
  have HP := Lib.hid (fun V (hV : Below w.heap.size w V) => hp.under hV)
  have HL := Lib.hid hp.1
  have HY := Lib.hid hY
  have c0 : W.cell? ⟨Bm, 0, none⟩ = some (.slice A n c) := hbW.cell 0
  have hwr1 : wrap64 ((n : Int) - 1) = (n : Int) - 1 := IntWalk.wrap64_in _ (by omega)
  clear hb hp hY hW hwq
  gi_wp2
  gi_loopw [3] (fun v wr => ∃ (k : Nat) (ss : List (Int × St3)), k ≤ n ∧ v = .int .i64 ((k : Int) - 1) ∧ ss.map (·.2) = (path.drop k).reverse ∧ ss.length + k = n ∧ J ss wr ∧ Below w.heap.size w wr ∧ Has wr Bm 34 #[.slice A n c])
    (fun v _ => match v with | .int _ z => (z + 1).toNat | _ => 0)
  case atStart =>
    exact ⟨n, [], by omega, by first | rfl | rw [hwr1], by rw [List.drop_of_length_le (by rw [HL.out]; exact Nat.le_refl _)]; rfl, by simp, h0, hBW, hbW⟩
  case round =>
    obtain ⟨k, ss, hk, rfl, hss, hlen, hJs, hB, hbr⟩ := hrel
    have HSS := Lib.hid hss; have HLEN := Lib.hid hlen
    by_cases hz : k = 0
    · subst hz
      have x1 : ¬ (0 : Int) ≤ ((0 : Nat) : Int) - 1 := by omega
      have x2 : ((0 : Nat) : Int) - 1 < 0 := by omega
      gi_wp2
      go_end0
      exact ⟨⟨_, rfl⟩, .inl ⟨ss, by rw [HSS.out]; rfl, hJs⟩⟩
    · obtain ⟨i, rfl⟩ : ∃ i, k = i + 1 := ⟨k - 1, by omega⟩
      have hi : i < n := by omega
      have e1 : ((i + 1 : Nat) : Int) - 1 = i := by omega
      simp only [e1]
      obtain ⟨x, hx⟩ : ∃ x, path[i]? = some x := ⟨_, List.getElem?_eq_getElem (by rw [HL.out]; omega)⟩
      have HX := Lib.hid hx
      obtain ⟨bk, off, rfl, d0, d1⟩ := (HP.out wr hB).step hx
      have c0 : wr.cell? ⟨Bm, 0, none⟩ = some (.slice (some ⟨bk, off, none⟩) n c) := hbr.cell 0
      have HBR := Lib.hid hbr
      obtain ⟨fn, tmps, assign, body, hy, hR⟩ := HY.out ss ((i : Int), x) wr hJs (by omega)
      unfold encB14 stA13 at hy
      dsimp only at hy
      have y0 : (0 : Int) ≤ i := by omega
      have y1 : (i : Int) < n := by omega
      have HB := Lib.hid hB; have HI := Lib.hid hi
      have hwr2 : wrap64 ((i : Int) - 1) = (i : Int) - 1 := IntWalk.wrap64_in _ (by omega)
      clear hx hk hss hlen hz hJs hB e1 hbr
      gi_wp2
      refine hR.mono ?_
      rintro e W3 (⟨rfl, hJ4, hk4⟩ | ⟨rfl, hJx4⟩)
      · gi_wp2
        go_roundw
        case rel => exact ⟨i, ss ++ [((i : Int), x)], by omega, by first | rfl | rw [hwr2], by rw [List.map_append, HSS.out, drop_rev14 HX.out]; rfl, by have := HLEN.out; simp; omega, hJ4, HB.out.trans hk4.1, hk4.2 HBR.out⟩
        case measure => first | (simp; omega) | (show (_ : Int).toNat < (_ : Int).toNat; omega)
      · gi_wp2
        refine bodyPost_ret (results_none rfl _ _ _) rfl ?_
        exact ⟨⟨_, rfl⟩, .inr ⟨ss ++ [((i : Int), x)], trivial, hJx4⟩⟩
theorem otbackward_any (A : Option Addr) (n c : Nat) (w : World) :
    Calls Try.prog 45 #[.slice A n c] w fun e w' => e = .returned (.func (.func 61) #[] #[.pointer (some ⟨w.heap.size, 0, none⟩)]) ∧ w' = w.alloc (.cells #[.slice A n c] 34) := by
  go_enter Try.func45, Try.ntmps45
  go_wp2
  go_ret
  exact ⟨rfl, rfl⟩
theorem map_back14 {ss : List (Int × St3)} {path : List St3} (h : ss.map (·.2) = path.reverse) : ss.map (fun p : Int × St3 => revS p.2) = backL path := by
  unfold backL
  rw [← List.map_reverse, ← h, List.map_map]
  rfl
set_option maxRecDepth 100000 in
set_option maxHeartbeats 4000000 in
theorem otp_back (path : List St3) (A : Option Addr) (n c : Nat) (w : World) (hp : SlO stC 2 w A n c path) (hn : n ≤ 100) : Calls Try.prog 30 #[.slice A n c] w fun e w' => ∃ B d, e = .returned (.slice B n d) ∧ SlO stC 2 w' B n d (backL path) ∧ n ≤ d ∧ Below w.heap.size w w' := by
  refine (callsIn_wide (n := 4)).1 ?_
  refine callsIn_of_wp_marks Try.func30 rfl trivial ?_ rfl
  simp only [Try.ntmps30, List.size_toArray, List.length_cons, List.length_nil, Nat.reduceAdd, Nat.reduceSub, Array.replicate_succ, Array.replicate_zero, List.push_toArray, List.append_toArray, List.nil_append, List.cons_append]
  have HP := Lib.hid hp; have HN := Lib.hid hn
  clear hp hn
  obtain ⟨i0, hi, hz0, hz1, hz2⟩ := info_parts info_step13
  have HB2 := Lib.hid (show i0.bytes * n ≤ 281474976710656 ∧ n ≤ maxLen from ⟨by rw [hz2]; have := HN.out; omega, by unfold maxLen; have := HN.out; omega⟩)
  gi_wp2_with (first
    | (gi_at_make; refine wpListIn_make_own _ rfl _ _ 34 rfl w.heap.size 46 i0 (.agg #[.int .i64 0, .bool false]) 2 Try.underlying34 hi hz0 hz1 .i64 .i64 (n : Int) n rfl rfl rfl HB2.out.1 HB2.out.2 (Nat.le_refl _) ?_; intro w1 hown hg1)
    | gi_in)
  have hb1 : Below w.heap.size w w1 := (Below.refl _ _).grown hg1 (Nat.le_refl _) (fun k e => by cases e)
  obtain ⟨w2, hw2⟩ : ∃ w2, w1.alloc (.cells #[.slice (some ⟨w.heap.size, 0, none⟩) 0 n] 34) = w2 := ⟨_, rfl⟩
  rw [hw2]
  have hx2 : Boxed w2 w1.heap.size 34 (.slice (some ⟨w.heap.size, 0, none⟩) 0 n) := by rw [← hw2]; exact Boxed.new _ _ _
  have ho2 : w2.ownsRow w.heap.size 46 2 (.slice (some ⟨w.heap.size, 0, none⟩) 0 n) 0 [] := by rw [← hw2]; exact hown.alloc _
  have hb2 : Below w.heap.size w w2 := by rw [← hw2]; exact hb1.alloc hb1.size _
  have hs1 := hb1.size
  have hs2 : w2.heap.size = w1.heap.size + 1 := by rw [← hw2]; simp
  clear hw2 hown hg1 hb1
  refine ⟨trivial, (callsIn_wide.2 (otbackward_any A n c w2)).mono ?_⟩
  rintro e w4 ⟨rfl, hw4⟩
  have hbm : Has w4 w2.heap.size 34 #[.slice A n c] := by rw [hw4]; exact Has.made _ _ _
  have hx4 : Boxed w4 w1.heap.size 34 (.slice (some ⟨w.heap.size, 0, none⟩) 0 n) := by rw [hw4]; exact hx2.alloc _
  have ho4 : w4.ownsRow w.heap.size 46 2 (.slice (some ⟨w.heap.size, 0, none⟩) 0 n) 0 [] := by rw [hw4]; exact ho2.alloc _
  have hb4 : Below w.heap.size w w4 := by rw [hw4]; exact hb2.alloc hb2.size _
  have hs4 : w4.heap.size = w2.heap.size + 1 := by rw [hw4]; simp
  clear hw4 hx2 ho2 hb2
  have hne : w2.heap.size ≠ w1.heap.size := by omega
  have HSEQ := Lib.hid (otbackw_stops 3 (by omega) w2.heap.size n c A path w w4 (by have := HN.out; omega) hb4 hbm HP.out)
  have HL := Lib.hid HP.out.1
  have HB4 := Lib.hid hb4
  have HNE := Lib.hid hne
  have HS4 := Lib.hid (show w.heap.size ≤ w4.heap.size ∧ w2.heap.size < w4.heap.size ∧ w1.heap.size < w4.heap.size ∧ w.heap.size ≤ w1.heap.size from by omega)
  clear hbm hs1 hs2 hs4 hb4 hne
  gi_wp2
  refine wpIn_range14 (w0 := w4) rfl (by omega) (gf := 61) (lb := #[.pointer (some ⟨w2.heap.size, 0, none⟩)]) rfl trivial (fun _ _ => rfl) HSEQ.out
    (fun h k => ⟨h.1.trans k.1, fun x => k.2 (h.2 x)⟩)
    (fun W l o o' hl h hc hk => ⟨belowK_b (w := w4) HS4.out.1 W l o o' hl h hc hk, fun x => by unfold Has at x ⊢; rw [World.putObj_heap_other (by have := HS4.out; omega)]; exact x⟩)
    (fun W o h => ⟨(Below.refl _ W).alloc (by have := HS4.out; omega) o, fun x => x.beside o⟩)
    (Below.refl _ _) (fun _ => rfl)
    (fun (pre : List (Int × St3)) W => (∃ v, Boxed W w1.heap.size 34 v ∧ W.ownsRow w.heap.size 46 2 v pre.length ((pre.map fun p : Int × St3 => revS p.2).flatMap stC) ∧ True) ∧ Below w.heap.size w W)
    (OwnFrom.and (Own.from (holdsRow_own w.heap.size w1.heap.size 34 46 2 List.length (fun pre : List (Int × St3) => (pre.map fun p : Int × St3 => revS p.2).flatMap stC) (fun _ _ => True)) _) (ownFrom_below (Nat.le_refl _) HS4.out.1))
    ⟨⟨_, hx4, ho4, trivial⟩, HB4.out⟩
    (fun x => .cells (stA13 x.2) 46)
    (fun x v => { tmps := #[.slice A n c, undef, .slice none 0 0, .pointer (some ⟨w1.heap.size, 0, none⟩), undef, .pointer (some ⟨v, 0, none⟩), .slice A n c, .int .i64 (n : Int), .slice (some ⟨w.heap.size, 0, none⟩) 0 n, .slice A n c, .func (.func 61) #[] #[.pointer (some ⟨w2.heap.size, 0, none⟩)], .int .i64 x.1, .agg (stA13 x.2), undef, undef, undef, undef, undef, undef, undef, undef, undef, undef], defers := [] }) ?assign ?body ?done
  case assign =>
    intro l x W K hK
    unfold encB14
    unfold stA13 at *
    gi_wp2
    exact hK
  case body =>
    rintro l pre x v W ⟨⟨u, hu, hrow, _⟩, hB⟩ hv hvw hlen
    have hst : Has W v 46 (stA13 x.2) := hv
    have c0 : W.cell? ⟨v, 0, none⟩ = some (.int .i64 x.2.edge) := hst.cell 0
    have c1 : W.cell? ⟨v, 1, none⟩ = some (.bool x.2.rev) := hst.cell 1
    have c2 := hu.cell
    have HROW := Lib.hid hrow; have HU := Lib.hid hu; have HB := Lib.hid hB; have HLEN := Lib.hid hlen
    have HAL : Hid (∀ e r : Value, ∀ j y, [e, r][j]? = some y → (W.alloc (.cells #[e, r] 46)).cell? ((⟨W.heap.size, 0, none⟩ : Addr).add j) = some y) := Lib.hid fun e r j y hj => by
      have h_ := (Has.made W 46 #[e, r]).cell j
      rw [show ((⟨W.heap.size, 0, none⟩ : Addr).add j) = ⟨W.heap.size, j, none⟩ by simp [Addr.add]; exact fun h => h.symm, h_]
      simpa using hj
    have HNM : Hid (pre.length + 1 ≤ maxLen ∧ (pre.length + 1) * 16 ≤ 140737488355328 ∧ w.heap.size ≤ (W.alloc (.cells #[Value.int .i64 x.2.edge, Value.bool (!x.2.rev)] 46)).heap.size) := Lib.hid ⟨by unfold maxLen; have := HN.out; omega, by have := HN.out; omega, by have := hB.size; simp; omega⟩
    unfold stA13 at *
    clear hst hv hrow hB hlen hu
    gi_wp2_with (first
      | (gi_at_builtin; refine wpListIn_append_own _ rfl _ _ 34 rfl w.heap.size 46 i0 (.agg #[.int .i64 0, .bool false]) 2 16 Try.underlying34 hi hz0 hz1 hz2 rfl (by decide) _ _ _ rfl (HROW.out.alloc _) ⟨W.heap.size, 0, none⟩ 1 1 [.int .i64 x.2.edge, .bool (!x.2.rev)] rfl rfl (HAL.out _ _) (by intro y hy; simp at hy; rcases hy with rfl | rfl <;> rfl) HNM.out.1 HNM.out.2.1 HNM.out.2.2 ?_; intro v' w5 hown' hg3 hnil3
         obtain ⟨g', cap', rfl⟩ := ownsRow_succ hown'
         have HGR := Lib.hid hg3
         obtain ⟨hb1, hb2, hb3', hb4, hb5⟩ := HU.out.appended (by decide) HROW.out HB.out.size HS4.out.2.2.2 hown' hg3
         have c5 := hb1.cell
         have c6 := hb1.frozen
         have HR := Lib.hid (show _ ∧ _ ∧ _ ∧ _ from ⟨hb2, hb3', hb4, hb5⟩)
         clear hown' hg3 hnil3 hb1 hb2 hb3' hb4 hb5
         go_frame)
      | gi_in)
    obtain ⟨hb2, hb3', hb4, hb5⟩ := HR.out
    have HBMK := fun hbm : Has W w2.heap.size 34 #[.slice A n c] => ((hbm.beside (.cells #[.int .i64 x.2.edge, .bool (!x.2.rev)] 46)).grow HGR.out (fun e => own_apart HROW.out hbm (by decide) e.symm)).apart (p := ⟨w1.heap.size, 0, none⟩) HNE.out (.slice (some ⟨g', 0, none⟩) (pre.length + 1) cap')
    exact ⟨hb4, ⟨hb5, HBMK⟩, ⟨_, hb2, by rw [List.length_append, List.map_append, List.flatMap_append]; exact hb3', trivial⟩, HB.out.trans hb5⟩
  case done =>
    rintro D ys W hD hys ⟨⟨u, hu, hrow, _⟩, hB⟩ hK
    have c2 := hu.cell
    have f2 := hu.frozen
    gi_wp2
    refine ⟨by simp, .inl ⟨_, _, rfl, run_takeDeferred hK, ?_⟩⟩
    have hylen : ys.length = n := by
      have h1 := congrArg List.length hys
      rw [List.length_map, List.length_reverse, HL.out] at h1
      exact h1
    rw [hylen, map_back14 hys] at hrow
    obtain ⟨B, d, rfl⟩ := own_shape hrow
    have hrow2 := ownsRow_putObj hrow (.deferred none) hK rfl
    have hcap : n ≤ d := by
      rcases hrow.2 with ⟨e1, e2⟩ | ⟨g, cap, cur, e1, _, _, hc, _⟩
      · omega
      · injection e1 with _ _ e3
        rw [e3]
        exact hc
    exact ⟨_, results_tmp rfl _ _ _, B, d, rfl, ⟨by unfold backL; simp; exact HL.out, Sl.of_own hrow2⟩, hcap, hB.trans (belowK_b (w := w) (Nat.le_refl _) W D _ _ (Nat.le_trans HS4.out.1 hD) hK rfl rfl)⟩
end Go.Proofs.Ytdkfphjcdcjbpaa
