/-
  CatI, ConI: merged.
-/
import Derived.Test.YtamnhnleipnhdaaDoorMgA
import Derived.Lib.AppendZerosOnto
import Derived.Lib.SliceRun
import Derived.Deep.LoopGhost

/-
  slices.Grow and slices.Concat over integers.
-/
namespace Go.Proofs.YtamnhnleipnhdaaDoor

open Go.RowKit

theorem info_partI : (Tryd.prog.info? 3).map (fun i => (i.zero, i.size, i.bytes)) = some (some (.int .i64 0), 1, 8) := by kernel_rfl

theorem grow_roomI (w : World) (n : Nat) (h0 : 0 < n) (hn : n ≤ 10000) :
    ∃ G cs, (∀ ty, (Builtin.append_ #[22, 3] ty #[.slice none 0 0, .int .i64 (n : Nat)]).run Tryd.prog w = .ok (.slice (some ⟨w.heap.size, 0, none⟩) n G) (w.drew.alloc (.cells cs 3))) ∧ n ≤ G ∧ G ≤ maxLen ∧ cs.size = G := by
  obtain ⟨i, hi, hz, hsize, hby⟩ := info_parts info_partI
  have hold : (Builtin.firstCells i.size 0 (.slice none 0 0)).run Tryd.prog w.drew = .ok ([] : List Value).toArray w.drew := run_firstCells_none w.drew i.size 0 0 0
  have hb : (0 + n) * i.bytes ≤ 140737488355328 := by rw [hby]; omega
  have h := fun ty => Lib.run_append_grow_zeros (P := Tryd.prog) w 22 3 ty 3 i _ .i64 .i64 Tryd.underlying22 Tryd.underlying3 hi hz none 0 0 [] hold n h0 (by omega) (by omega) (by omega) (by rw [hby]; omega) (growslice_fits (by omega) hb)
  rw [Nat.zero_add] at h
  have hge := grownCap_ge w n 0 3
  refine ⟨_, _, h, hge, grownCap_le_maxLen w n 0 _ (by unfold maxLen; omega), ?_⟩
  simp only [Array.size_append, size_zeroCells]
  show 0 + n * 1 + _ * 1 = _
  omega
theorem run_cut_noneI (w : World) (a : Option Addr) (n c k : Nat) (hk : k ≤ c) (ha : a = none ∨ ∃ g, a = some ⟨g, 0, none⟩) : (Instr.sliceAt 22 (.slice a n c) none (some (.int .i64 (k : Nat))) none).run Tryd.prog w = .ok (.slice a k c) w := by
  obtain ⟨i, hi, hz, hsize, hby⟩ := info_parts info_partI
  have e1 : (sizeOf 3).run Tryd.prog w = .ok 1 w := by simp [sizeOf, run_typeInfo _ hi, hsize]
  have h0 : (0 : Int) ≤ (k : Nat) := by omega
  have h1 : ((k : Nat) : Int) ≤ (c : Nat) := by omega
  have he : Tryd.prog.elem 22 = 3 := by kernel_rfl
  rcases ha with rfl | ⟨g, rfl⟩
  · simp [Instr.sliceAt, Instr.slice, run_underlying Tryd.underlying22, Instr.sliceBounds, run_sliceBound, h0, h1]
  · simp [Instr.sliceAt, Instr.slice, run_underlying Tryd.underlying22, Instr.sliceBounds, run_sliceBound, h0, h1, Addr.add]

set_option maxRecDepth 100000 in
set_option maxHeartbeats 2000000 in
theorem grow_anyI (n : Nat) (hn : n ≤ 10000) (w : World) :
    Calls Tryd.prog 78 #[.slice none 0 0, .int .i64 (n : Nat)] w fun e w' => ∃ A' c', e = .returned (.slice A' 0 c') ∧ w'.ownsRow w.heap.size 3 1 (.slice A' 0 c') 0 [] ∧ Below w.heap.size w w' := by
  have h1 : ¬ ((n : Int) < 0) := by omega
  by_cases h0 : 0 < n
  · obtain ⟨G, cs, hr, hG, hG2, hsz⟩ := grow_roomI w n h0 hn
    have hx : (0 : Int) < n := by omega
    have hc1 : ∀ w, (Instr.sliceAt 22 (.slice none 0 0) none (some (.int .i64 0)) none).run Tryd.prog w = .ok (.slice none 0 0) w := fun w => run_cut_noneI w none 0 0 0 (by omega) (.inl rfl)
    have hc2 : ∀ W : World, (Instr.sliceAt 22 (.slice (some ⟨w.heap.size, 0, none⟩) n G) none (some (.int .i64 0)) none).run Tryd.prog W = .ok (.slice (some ⟨w.heap.size, 0, none⟩) 0 G) W := fun W => run_cut_noneI W _ n G 0 (by omega) (.inr ⟨_, rfl⟩)
    have HR := Lib.hid hr; have HS := Lib.hid hsz
    clear hr hsz
    go_enter Tryd.func78, Tryd.ntmps78
    go_wp2_with (at_builtin; refine Lib.wpList_append_run _ rfl _ _ _ _ rfl _ _ rfl rfl _ _ (HR.out _) ?_)
    go_wp2
    go_ret
    refine ⟨_, G, rfl, ⟨rfl, .inr ⟨w.heap.size, G, cs, rfl, Nat.le_refl _, ?_, by omega, hG2, by rw [HS.out, Nat.mul_one], by simp⟩⟩, (below_draws (Below.refl _ _) 1).alloc (Nat.le_refl _) _⟩
    exact heap_alloc_new w.drew _
  · obtain rfl : n = 0 := by omega
    go_enter Tryd.func78, Tryd.ntmps78
    go_wp2
    go_ret
    exact ⟨none, 0, rfl, World.ownsRow_nil _ _ _ _, Below.refl _ _⟩

abbrev SlTI := Option Addr × Nat × Nat × List Value
def slsI (L : List SlTI) : List Value := L.map fun x => .slice x.1 x.2.1 x.2.2.1
def cntOfI (L : List SlTI) : Nat := (L.map fun x => x.2.1).sum
def cellsOfI (L : List SlTI) : List Value := L.flatMap fun x => x.2.2.2
theorem cnt_stepI (L : List SlTI) (j : Nat) (h : j < L.length) : cntOfI (L.take (j + 1)) = cntOfI (L.take j) + L[j].2.1 := by
  rw [List.take_succ_eq_append_getElem h, cntOfI, List.map_append, List.sum_append]; simp [cntOfI, -List.map_take]
theorem cells_stepI (L : List SlTI) (j : Nat) (h : j < L.length) : cellsOfI (L.take (j + 1)) = cellsOfI (L.take j) ++ L[j].2.2.2 := by
  rw [List.take_succ_eq_append_getElem h, cellsOfI, List.flatMap_append]; simp [cellsOfI]
theorem cnt_leI (L : List SlTI) (h : ∀ x ∈ L, x.2.1 ≤ 100) : cntOfI L ≤ 100 * L.length := by
  induction L with
  | nil => simp [cntOfI]
  | cons x l ih =>
    have h1 := h x (by simp)
    have h2 := ih (fun y hy => h y (by simp [hy]))
    have e : cntOfI (x :: l) = x.2.1 + cntOfI l := by simp [cntOfI]
    rw [e, List.length_cons]; omega

set_option maxRecDepth 100000 in
set_option maxHeartbeats 4000000 in
theorem concat_anyI (A : Option Addr) (n c : Nat) (L : List SlTI) (w : World) (hs : Sl w 1 A n c (slsI L)) (hn : n ≤ 100) (hx : ∀ x ∈ L, Sl w 1 x.1 x.2.1 x.2.2.1 x.2.2.2 ∧ (∀ u ∈ x.2.2.2, u.oneCell' = true) ∧ x.2.1 ≤ 100) :
    Calls Tryd.prog 54 #[.slice A n c] w fun e w' => ∃ A' c', e = .returned (.slice A' (cntOfI L) c') ∧ w'.ownsRow w.heap.size 3 1 (.slice A' (cntOfI L) c') (cntOfI L) (cellsOfI L) ∧ Below w.heap.size w w' := by
  have hl : L.length = n := by have := hs.1; simpa [slsI] using this
  have hat : ∀ j, j < n → ∀ W, Below w.heap.size w W → ∃ x, ∃ hj : j < L.length, x = L[j] ∧ ∃ b o, A = some ⟨b, o, none⟩ ∧ W.cell? ⟨b, o + j, none⟩ = some (.slice x.1 x.2.1 x.2.2.1) ∧ Sl W 1 x.1 x.2.1 x.2.2.1 x.2.2.2 ∧ (∀ u ∈ x.2.2.2, u.oneCell' = true) ∧ x.2.1 ≤ 100 := by
    intro j hj W hW
    have hjl : j < L.length := by omega
    obtain ⟨b, o, e1, e2⟩ := (hs.under hW).at_ (j := j) (u := .slice L[j].1 L[j].2.1 L[j].2.2.1) (by simp [slsI, List.getElem?_eq_getElem hjl])
    obtain ⟨h1, h2, h3⟩ := hx L[j] (List.getElem_mem hjl)
    exact ⟨L[j], hjl, rfl, b, o, e1, e2, h1.under hW, h2, h3⟩
  have hcl := cnt_leI L (fun x h => (hx x h).2.2)
  have hct : ∀ j, j ≤ n → cntOfI (L.take j) ≤ 10000 := fun j hj => by
    have := cnt_leI (L.take j) (fun x h => (hx x (List.mem_of_mem_take h)).2.2)
    rw [List.length_take] at this
    omega
  have HAT := Lib.hid hat; have HL := Lib.hid hl; have HCT := Lib.hid hct; have HCL : Hid (cntOfI L ≤ 10000) := Lib.hid (by omega)
  clear hs hx hat hl hct hcl
  go_enter Tryd.func54, Tryd.ntmps54
  go_wp2
  go_loop [3, 11] (fun v i => ∃ (j t : Nat), j ≤ n ∧ i = .int .i64 j ∧ v = .int .i64 t ∧ cntOfI (L.take j) = t) (fun _ i => n - (intOf i).toNat)
  case atStart => exact ⟨0, 0, by omega, rfl, rfl, rfl⟩
  case round =>
    obtain ⟨j, t, hj, rfl, rfl, ht⟩ := hrel
    by_cases hlt : j < n
    · obtain ⟨x, hjl, hxe, b, o, rfl, hc, _, _, hx3⟩ := HAT.out j hlt w (Below.refl _ _)
      have hst := cnt_stepI L j hjl
      have hcb := HCT.out (j + 1) (by omega)
      rw [ht, ← hxe] at hst
      rw [hst] at hcb
      obtain ⟨xa, xm, xc, xs⟩ := x
      simp only at hc hx3 hst hcb
      have HST := Lib.hid hst
      clear hst ht hxe
      have x0 : (0 : Int) ≤ j := by omega
      have x1 : (j : Int) < n := by omega
      have x2 : ¬ ((t : Int) + (xm : Int) < 0) := by omega
      go_wp2
      go_round
      case rel => exact ⟨j + 1, t + xm, by omega, by go_num, by go_num, HST.out⟩
      case measure => simp [intOf]; omega
    · obtain rfl : j = n := by omega
      have e : L.take j = L := by rw [← HL.out, List.take_length]
      rw [e] at ht
      have HTT := Lib.hid ht
      have HG := Lib.hid (grow_anyI t (by rw [← ht]; exact HCL.out) w)
      clear ht e
      go_wp2_with fail
      refine HG.out.mono ?_
      rintro e w1 ⟨A1, c1, rfl, ho1, hb1⟩
      have HO1 := Lib.hid ho1; have HB1 := Lib.hid hb1; clear ho1 hb1 HG
      go_wp2
      go_loopg [6, 27] j (fun kk v i wl => ∃ (q t2 : Nat) (A2 : Option Addr) (c2 : Nat), q ≤ j ∧ j - q ≤ kk ∧ i = .int .i64 q ∧ v = .slice A2 t2 c2 ∧ cntOfI (L.take q) = t2 ∧ wl.ownsRow w.heap.size 3 1 (.slice A2 t2 c2) t2 (cellsOfI (L.take q)) ∧ Below w.heap.size w wl)
      case atStart => exact ⟨0, 0, A1, c1, by omega, by omega, rfl, rfl, rfl, HO1.out, HB1.out⟩
      case round =>
        obtain ⟨q, t2, A2, c2, hq, hqk, rfl, rfl, ht2, ho, hb⟩ := hrel
        have HO := Lib.hid ho; have HB := Lib.hid hb; clear ho hb
        by_cases hlt2 : q < j
        · obtain ⟨x, hjl, hxe, b, o, rfl, hc, hx1, hx2, hx3⟩ := HAT.out q hlt2 wr HB.out
          have hst := cnt_stepI L q hjl
          have hse := cells_stepI L q hjl
          have hcb := HCT.out (q + 1) (by omega)
          rw [ht2, ← hxe] at hst
          rw [← hxe] at hse
          rw [hst] at hcb
          obtain ⟨xa, xm, xc, xs⟩ := x
          simp only at hc hx1 hx2 hx3 hst hse hcb
          have HST := Lib.hid hst; have HSE := Lib.hid hse; have HX1 := Lib.hid hx1; have HX2 := Lib.hid hx2
          have hBD : Hid (t2 + xm ≤ maxLen ∧ (t2 + xm) * 8 ≤ 140737488355328 ∧ w.heap.size ≤ wr.heap.size) := Lib.hid ⟨by unfold maxLen; omega, by omega, HB.out.size⟩
          clear hst hse ht2 hxe hx1 hx2
          have x0 : (0 : Int) ≤ q := by omega
          have x1 : (q : Int) < j := by omega
          go_wp2_with (with_reducible refine wpList_pour (o := ⟨some 33, _, _, _, _, _⟩) rfl (.tmp 31) (.tmp 32) 22 rfl w.heap.size 3 (.int .i64 0) 1 8 Tryd.underlying22 info_partI ?hz (by decide) A2 t2 c2 (cellsOfI (L.take q)) ?hs HO xa xm xc xs ?hx HX1 HX2 hBD ?next)
          all_goals try rfl
          case next =>
            intro A4 c4 w4 ho4 hg4
            go_wp2
            go_roundg (gk - 1)
            case measure => omega
            case rel => exact ⟨q + 1, t2 + xm, A4, c4, by omega, by omega, by go_num, rfl, HST.out, by rw [HSE.out]; exact ho4.out, below_own HB.out hBD.out.2.2 HO.out (Nat.le_refl _) rfl hg4.out⟩
        · obtain rfl : q = j := by omega
          have e : L.take q = L := by rw [← HL.out, List.take_length]
          rw [e] at HO ht2
          subst ht2
          go_wp2
          go_ret
          exact ⟨A2, c2, rfl, HO.out, HB.out⟩
end Go.Proofs.YtamnhnleipnhdaaDoor

/-
  slices.Index and slices.Contains over integers.
-/
namespace Go.Proofs.YtamnhnleipnhdaaDoor

open Go.RowKit

def intsI (l : List Int) : List Value := l.map (.int .i64)
set_option maxRecDepth 100000 in
set_option maxHeartbeats 2000000 in
theorem index_anyI (A : Option Addr) (n c : Nat) (L : List Int) (x : Int) (w : World) (hs : Sl w 1 A n c (intsI L)) (hn : n ≤ 1048576) :
    Calls Tryd.prog 86 #[.slice A n c, .int .i64 x] w fun e w' => ∃ k : Int, e = .returned (.int .i64 k) ∧ (0 ≤ k ↔ x ∈ L) ∧ w = w' := by
  have hl : L.length = n := by have := hs.1; simpa [intsI] using this
  have hat : ∀ j, (hj : j < n) → ∃ b o, A = some ⟨b, o, none⟩ ∧ w.cell? ⟨b, o + j, none⟩ = some (.int .i64 (L[j]'(by omega))) := by
    intro j hj
    exact hs.at_ (j := j) (by simp [intsI, hl, hj])
  have HAT := Lib.hid hat; have HL := Lib.hid hl
  clear hs hat
  go_enter Tryd.func86, Tryd.ntmps86
  go_wp2
  go_loop [5, 8] (fun _ i => ∃ j : Nat, j ≤ n ∧ i = .int .i64 j ∧ x ∉ L.take j) (fun _ i => n - (intOf i).toNat)
  case atStart => exact ⟨0, by omega, rfl, by simp⟩
  case round =>
    obtain ⟨j, hj, rfl, hne⟩ := hrel
    have HNE := Lib.hid hne
    clear hne
    by_cases hlt : j < n
    · obtain ⟨b, o, rfl, hc⟩ := HAT.out j hlt
      have hjl : j < L.length := by omega
      have HST : Hid (L.take (j + 1) = L.take j ++ [L[j]]) := Lib.hid (List.take_succ_eq_append_getElem hjl)
      have HMM : Hid (L[j] ∈ L) := Lib.hid (List.getElem_mem hjl)
      generalize L[j] = y at *
      have x0 : (0 : Int) ≤ j := by omega
      have x1 : (j : Int) < n := by omega
      by_cases hxy : x = y
      · have e1 : (x == y) = true := by simp [hxy]
        go_wp2
        go_ret
        refine ⟨_, rfl, ?_, rfl⟩
        exact ⟨fun _ => by first | exact HMM.out | (rw [hxy]; exact HMM.out), fun _ => by omega⟩
      · have e1 : (x == y) = false := by simp [hxy]
        go_wp2
        go_round
        case rel =>
          refine ⟨j + 1, by omega, by go_num, ?_⟩
          rw [HST.out, List.mem_append]
          rintro (h | h)
          · exact HNE.out h
          · exact hxy (by simpa using h)
        case measure => simp [intOf]; omega
    · obtain rfl : j = n := by omega
      have e : L.take j = L := by rw [← HL.out, List.take_length]
      have h := HNE.out
      rw [e] at h
      have HN2 := Lib.hid h
      clear h e
      go_wp2
      go_ret
      exact ⟨-1, rfl, ⟨fun h => by omega, fun h => absurd h HN2.out⟩, rfl⟩

set_option maxHeartbeats 1000000 in
theorem contains_anyI (A : Option Addr) (n c : Nat) (L : List Int) (x : Int) (w : World) (hs : Sl w 1 A n c (intsI L)) (hn : n ≤ 1048576) :
    Calls Tryd.prog 61 #[.slice A n c, .int .i64 x] w fun e w' => e = .returned (.bool (decide (x ∈ L))) ∧ w = w' := by
  have HX := Lib.hid (index_anyI A n c L x w hs hn)
  clear hs
  go_enter Tryd.func61, Tryd.ntmps61
  go_wp2_with fail
  refine HX.out.mono ?_
  rintro e w1 ⟨k, rfl, hk, rfl⟩
  by_cases h : x ∈ L
  · have h0 : (0 : Int) ≤ k := hk.2 h
    have HH := Lib.hid h
    clear hk h
    go_wp2
    go_ret
    exact ⟨by simp [HH.out], rfl⟩
  · have h0 : ¬ (0 : Int) ≤ k := fun h2 => h (hk.1 h2)
    have HH := Lib.hid h
    clear hk h
    go_wp2
    go_ret
    exact ⟨by simp [HH.out]; omega, rfl⟩
end Go.Proofs.YtamnhnleipnhdaaDoor
