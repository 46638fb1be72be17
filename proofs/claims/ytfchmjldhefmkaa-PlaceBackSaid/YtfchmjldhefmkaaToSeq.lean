/-
  package topo as landed: a range over an iterator whose variable is a struct; slices.AppendSeq, slices.Collect.
-/
import Derived.Test.YtfchmjldhefmkaaToIter

namespace Go.Proofs.Ytfchmjldhefmkaa

open Go.RowKit Go.Shelf

attribute [local go_sem] Oper.semAt_some

/-- A range over a function whose round lays one block for its variable ahead of the body. -/
theorem wpIn_range13 {F : Fence} {n : Nat} {P : Program} {α : Type} {g : Operand} {ps : Array Tmp} {assign body : Code} {Q : Exit → Act → World → Prop} {a : Act} {w : World}
    (hro : F.round = none) (h1 : 1 ≤ n) {gf : Nat} {lb : Array Value} (hg : a.eval g = .func (.func gf) #[] lb) (hFg : F.fn gf) (eg : ∀ args w, (callFunc gf args).run P w = .ok (.enter gf args) w)
    {encs : α → Array Value} {S : List α → Prop} {N : Nat} {w0 : World} (hseq : SeqStopsK F (n - 1) P gf lb encs KeepsWalks S (fun _ => True) N w0)
    (hb0 : Below w0.heap.size w0 w) (hps : ∀ x, (encs x).size = ps.size)
    (I : List α → World → Prop) (hI : OwnFrom w.heap.size I) (h0 : I [] w) (ob : α → Obj) (a₁ : α → Nat → Act)
    (hassign : ∀ (l : Nat) (x : α) (W : World) (K : Act → World → Prop), K (a₁ x W.heap.size) (W.alloc (ob x)) →
      assign.wpIn (F.inRound l) (n - 1 - 1) P (Exit.then K (fun _ _ _ => False)) { tmps := (ps.zip (encs x)).foldl (fun t (p, v) => t.setIfInBounds p v) a.tmps, defers := [] } W)
    (hbody : ∀ (l : Nat) (pre : List α) (x : α) (v : Nat) (W : World), I pre W → W.heap[v]? = some (ob x) → w.heap.size ≤ v → pre.length < N → body.wpIn (F.inRound l) (n - 1 - 1) P (ownPostK KeepsWalks I (fun _ _ _ => False) (pre ++ [x]) W) (a₁ x v) W)
    (hdone : ∀ (D : Nat) (xs : List α) (W : World), w.heap.size ≤ D → S xs → I xs W → W.heap[D]? = some (.deferred (some [])) → Q .normal { a with defers := { target := .collected D, args := #[] } :: a.defers } W) :
    (Code.rangeFunc g ps assign body).wpIn F n P Q a w := by
  refine wpIn_rangeFunc ?_
  intro fn hfn
  rw [hro]
  obtain ⟨rec, hrec⟩ : ∃ rec : LoopState → Option Code → Loop, rec = fun st pe => { state := st, pending := pe, fn, tmps := a.tmps, params := ps, assign, body, defers := w.heap.size } := ⟨_, rfl⟩
  obtain ⟨W1, hW1⟩ : ∃ W1, (w.alloc (.deferred (some []))).alloc (.loop (rec .ready none)) = W1 := ⟨_, rfl⟩
  have hL1 : W1.heap[w.heap.size + 1]? = some (.loop (rec .ready none)) := by
    rw [← hW1]; have := World.alloc_heap_new (w.alloc (.deferred (some []))) (.loop (rec .ready none)); rwa [World.size_alloc] at this
  have hK1 : W1.heap[w.heap.size]? = some (.deferred (some [])) := by
    rw [← hW1]; exact (Below.heap_alloc _ _ _ (by simp)).trans (World.alloc_heap_new w _)
  have hI1 : I [] W1 := by rw [← hW1]; exact hI.alloc _ (hI.alloc _ h0)
  have hb1 : Below w0.heap.size w0 W1 := by
    rw [← hW1]; exact hb0.trans ((((Below.refl _ w).alloc (Nat.le_refl _) _).alloc (by simp) _).mono hb0.size)
  refine ⟨w.heap.size + 1, [{ target := .collected w.heap.size, args := #[] }], W1, { target := .fn (.func gf) lb, args := #[.func (.yield (w.heap.size + 1)) #[] #[]] }, W1, gf,
    #[.func (.yield (w.heap.size + 1)) #[] #[]] ++ lb, W1, ?_, ?_, ?_, ?_, fun _ => h1, ?_⟩
  · rw [← hW1, hrec]; exact run_enterLoop_outer _ _ _ _ _
  · simp only [resolve, hg]
    simp [go_sem]
  · intro f' hf'; simp [Target.leads] at hf'; subst hf'; exact hFg
  · simp [invoke, go_sem, eg]
  · have hnw : ∀ {A B : World} {row : Option Nat}, (∀ r, row = some r → W1.heap.size ≤ r ∧ ∃ o : Obj, A.heap[r]? = some o ∧ o.isWalk = true) → (∀ r, row = some r → w.heap.size ≤ r ∧ ∃ o : Obj, A.heap[r]? = some o ∧ o.isCells = false) :=
      fun hr r e => by obtain ⟨hB, o, ho, hw⟩ := hr r e; exact ⟨by rw [← hW1] at hB; simp at hB; omega, o, ho, Obj.not_cells_of_walk hw⟩
    refine (hseq (w.heap.size + 1)
      (fun pre W => I pre W ∧ W.heap[w.heap.size + 1]? = some (.loop (rec .ready none)) ∧ W.heap[w.heap.size]? = some (.deferred (some [])))
      (fun _ _ => False)
      W1 hb1
      (fun s A B row hs hg' hr => ⟨hI s A B row hs.1 hg' (hnw (B := B) hr), (grownBy_keeps hg' (fun r e => (hr r e).2) hs.2.1 rfl).trans hs.2.1, (grownBy_keeps hg' (fun r e => (hr r e).2) hs.2.2 rfl).trans hs.2.2⟩)
      (fun _ _ _ _ hs _ _ => hs)
      ?_ ⟨hI1, hL1, hK1⟩).mono ?_
    · rintro pre x W ⟨hi, hl, hk⟩ hlen
      have hlt : w.heap.size + 1 < W.heap.size := (Array.getElem?_eq_some_iff.1 hl).1
      have hy := run_yield (P := P) (args := encs x) hl (by rw [hrec]; exact hps x)
      rw [hrec] at hy
      obtain ⟨WA, hWA⟩ : ∃ WA, W.alloc (ob x) = WA := ⟨_, rfl⟩
      have hlA : WA.heap[w.heap.size + 1]? = some (.loop (rec .ready none)) := by rw [← hWA]; exact (Below.heap_alloc _ _ _ hlt).trans hl
      have hkA : WA.heap[w.heap.size]? = some (.deferred (some [])) := by rw [← hWA]; exact (Below.heap_alloc _ _ _ (by omega)).trans hk
      have hiA : I pre WA := by rw [← hWA]; exact hI.alloc _ hi
      have hvA : WA.heap[W.heap.size]? = some (ob x) := by rw [← hWA]; exact World.alloc_heap_new W _
      have hwA : KeepsWalks W WA := by rw [← hWA]; exact KeepsWalks.alloc _ _
      have hltA : w.heap.size + 1 < WA.heap.size := (Array.getElem?_eq_some_iff.1 hlA).1
      refine ⟨fn, _, assign, body, hy, roundIn_of_wpIn hfn (hassign _ x W _ ?_)⟩
      rw [hWA]
      refine ⟨_, run_beginRound hlA (by rw [hrec]), ?_⟩
      have hl2 : (WA.putObj (w.heap.size + 1) (.loop { rec .ready none with state := .busy })).heap[w.heap.size + 1]? = some (.loop { rec .ready none with state := .busy }) := World.putObj_heap_same hltA
      have hk2 : (WA.putObj (w.heap.size + 1) (.loop { rec .ready none with state := .busy })).heap[w.heap.size]? = some (.deferred (some [])) := (World.putObj_heap_other (by omega)).trans hkA
      have hv2 : (WA.putObj (w.heap.size + 1) (.loop { rec .ready none with state := .busy })).heap[W.heap.size]? = some (ob x) := (World.putObj_heap_other (by omega)).trans hvA
      have hw2 : KeepsWalks WA (WA.putObj (w.heap.size + 1) (.loop { rec .ready none with state := .busy })) := KeepsWalks.putObj _ hlA rfl
      refine wpIn_mono (hbody _ pre x W.heap.size _ (hI.putObj _ hiA (by omega) hlA rfl) hv2 (by omega) hlen) ?_
      rintro e a3 W3 hp
      cases e with
      | normal =>
        obtain ⟨hk3, hkp3, hi3⟩ := hp
        have hl3 := hk3.same _ _ hl2 rfl
        have hr := run_endRound (P := P) none hl3
        rw [hrec] at hr hl3
        refine ⟨_, _, hr, .inl ⟨rfl, ⟨hI.putObj _ hi3 (by omega) hl3 rfl, ?_, (World.putObj_heap_other (by omega)).trans (hk3.same _ _ hk2 rfl)⟩, walksK_t (walksK_t hwA (walksK_t hw2 hkp3)) (KeepsWalks.putObj _ hl3 rfl)⟩⟩
        rw [hrec]
        exact World.putObj_heap_same (Array.getElem?_eq_some_iff.1 hl3).1
      | ret => exact hp.2.elim
      | exit id => exact hp.2.elim
      | goto t => exact hp.2.elim
      | panic ch => exact hp.elim
      | outgrown => exact hp.elim
    · rintro e W2 ⟨⟨v, rfl⟩, (⟨xs, hS, hi, hl, hk⟩ | ⟨pre, _, h⟩)⟩
      · exact ⟨none, _, by have := run_endLoop (P := P) hl (by rw [hrec]; simp); rw [hrec] at this; exact this, hdone _ xs _ (Nat.le_refl _) hS (hI.putObj _ hi (by omega) hl rfl) ((World.putObj_heap_other (by omega)).trans hk)⟩
      · exact h.elim

set_option maxRecDepth 100000 in
set_option maxHeartbeats 4000000 in
theorem otappend_any (gf : Nat) (lb : Array Value) (S : List St3 → Prop) (N : Nat) (hN : N ≤ 1048576) (w : World) (eg : ∀ args w, (callFunc gf args).run Try.prog w = .ok (.enter gf args) w)
    (hseq : SeqStopsK Fence.wide 3 Try.prog gf lb encT KeepsWalks S (fun _ => True) N w) :
    Calls Try.prog 80 #[.slice none 0 0, .func (.func gf) #[] lb] w fun e w' => ∃ (v : Value) (ss : List St3), e = .returned v ∧ S ss ∧ Hid (w'.ownsRow w.heap.size 45 2 v ss.length (ss.flatMap stC)) ∧ Below w.heap.size w w' := by
  refine (callsIn_wide (n := 4)).1 ?_
  refine callsIn_of_wp_marks Try.func80 rfl trivial ?_ rfl
  simp only [Try.ntmps80, List.size_toArray, List.length_cons, List.length_nil, Nat.reduceAdd, Nat.reduceSub, Array.replicate_succ, Array.replicate_zero, List.push_toArray, List.append_toArray, List.nil_append, List.cons_append]
  have HSEQ := Lib.hid hseq; have HEG := Lib.hid eg
  clear hseq eg
  gi_wp2
  obtain ⟨w3, hw3⟩ : ∃ w3, w.alloc (.cells #[.slice none 0 0] 39) = w3 := ⟨_, rfl⟩
  rw [hw3]
  have hs3 : w3.heap.size = w.heap.size + 1 := by rw [← hw3]; simp
  have hx3 : Boxed w3 w.heap.size 39 (.slice none 0 0) := by rw [← hw3]; exact Boxed.new _ _ _
  have hb3 : Below w.heap.size w w3 := by rw [← hw3]; exact (Below.refl _ _).alloc (Nat.le_refl _) _
  clear hw3
  refine wpIn_range13 rfl (by omega) (gf := gf) (lb := lb) rfl trivial HEG.out HSEQ.out hb3 (fun _ => rfl)
    (fun pre W => (∃ v, Boxed W w.heap.size 39 v ∧ W.ownsRow w.heap.size 45 2 v pre.length (pre.flatMap stC) ∧ True) ∧ Below w.heap.size w W)
    (OwnFrom.and (Own.from (holdsRow_own w.heap.size w.heap.size 39 45 2 List.length (fun pre => pre.flatMap stC) (fun _ _ => True)) _) (ownFrom_below (Nat.le_refl _) (by omega)))
    ⟨⟨_, hx3, World.ownsRow_nil _ _ _ _, trivial⟩, hb3⟩
    (fun x => .cells (stA13 x) 45)
    (fun x v => { tmps := #[.slice none 0 0, .func (.func gf) #[] lb, .pointer (some ⟨w.heap.size, 0, none⟩), undef, .slice none 0 0, .pointer (some ⟨v, 0, none⟩), .func (.func gf) #[] lb, .agg (stA13 x), undef, undef, undef, undef, undef], defers := [] }) ?assign ?body ?done
  case assign =>
    intro l x W K hK
    unfold encT
    unfold stA13 at *
    gi_wp2
    exact hK
  case body =>
    rintro l pre x v W ⟨⟨u, hu, hrow, _⟩, hB⟩ hv hvw hlen
    have hst : Has W v 45 (stA13 x) := hv
    have c0 : W.cell? ⟨v, 0, none⟩ = some (.int .i64 x.edge) := hst.cell 0
    have c1 : W.cell? ⟨v, 1, none⟩ = some (.bool x.rev) := hst.cell 1
    have c2 := hu.cell
    have HROW := Lib.hid hrow; have HU := Lib.hid hu; have HB := Lib.hid hB; have HLEN := Lib.hid hlen
    have HAL : Hid (∀ e r : Value, ∀ j y, [e, r][j]? = some y → (W.alloc (.cells #[e, r] 45)).cell? ((⟨W.heap.size, 0, none⟩ : Addr).add j) = some y) := Lib.hid fun e r j y hj => by
      have h_ := (Has.made W 45 #[e, r]).cell j
      rw [show ((⟨W.heap.size, 0, none⟩ : Addr).add j) = ⟨W.heap.size, j, none⟩ by simp [Addr.add]; exact fun h => h.symm, h_]
      simpa using hj
    obtain ⟨i0, hi, hz0, hz1, hz2⟩ := info_parts info_step13
    have HNM : Hid (pre.length + 1 ≤ maxLen ∧ (pre.length + 1) * 16 ≤ 140737488355328 ∧ w.heap.size ≤ (W.alloc (.cells #[Value.int .i64 x.edge, Value.bool x.rev] 45)).heap.size) := Lib.hid ⟨by unfold maxLen; omega, by omega, by have := hB.size; simp; omega⟩
    unfold stA13 at *
    clear hst hv hrow hB hlen hu
    gi_wp2_with (first
      | (gi_at_builtin; refine wpListIn_append_own _ rfl _ _ 39 rfl w.heap.size 45 i0 (.agg #[.int .i64 0, .bool false]) 2 16 Try.underlying39 hi hz0 hz1 hz2 rfl (by decide) _ _ _ rfl (HROW.out.alloc _) ⟨W.heap.size, 0, none⟩ 1 1 [.int .i64 x.edge, .bool x.rev] rfl rfl (HAL.out _ _) (by intro y hy; simp at hy; rcases hy with rfl | rfl <;> rfl) HNM.out.1 HNM.out.2.1 HNM.out.2.2 ?_; intro v' w4 hown' hg3 hnil3
         obtain ⟨g', cap', rfl⟩ := ownsRow_succ hown'
         obtain ⟨hb1, hb2, hb3', hb4, hb5⟩ := HU.out.appended (by decide) HROW.out HB.out.size (Nat.le_refl _) hown' hg3
         have c5 := hb1.cell
         have c6 := hb1.frozen
         have HR := Lib.hid (show _ ∧ _ ∧ _ ∧ _ from ⟨hb2, hb3', hb4, hb5⟩)
         clear hown' hg3 hnil3 hb1 hb2 hb3' hb4 hb5
         go_frame)
      | gi_in)
    obtain ⟨hb2, hb3', hb4, hb5⟩ := HR.out
    exact ⟨hb4, hb4.walks, ⟨_, hb2, by rw [List.length_append, List.flatMap_append]; exact hb3', trivial⟩, HB.out.trans hb5⟩
  case done =>
    rintro D ys W hD hys ⟨⟨u, hu, hrow, _⟩, hB⟩ hK
    have c2 := hu.cell
    have f2 := hu.frozen
    gi_wp2
    refine ⟨by simp, .inl ⟨_, _, rfl, run_takeDeferred hK, ?_⟩⟩
    refine ⟨_, results_tmp rfl _ _ _, u, ys, rfl, hys, Lib.hid (ownsRow_putObj hrow _ hK rfl), hB.trans (belowK_b (w := w) (Nat.le_refl _) W D _ _ (by omega) hK rfl rfl)⟩
end Go.Proofs.Ytfchmjldhefmkaa
