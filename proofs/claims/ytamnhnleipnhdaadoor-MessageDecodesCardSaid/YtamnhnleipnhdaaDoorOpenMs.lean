/-
  What arguments that came in read as: a message by value; bytes with room, nil with none.
-/
import Derived.Test.YtamnhnleipnhdaaDoorOpenPk

import Derived.Test.YtamnhnleipnhdaaDoorMgI

import Derived.Deep.SlicePairs

namespace Go.Proofs.YtamnhnleipnhdaaDoor

open Go.ChangeShapes Go.WideShapes Go.ChangeAt Go.RowKit Go.Deep Go.Joins

theorem array6 {α : Type} {cs : Array α} (h : cs.size = 6) : ∃ c0 c1 c2 c3 c4 c5, cs = #[c0, c1, c2, c3, c4, c5] := by
  obtain ⟨l⟩ := cs
  match l, h with
  | [c0, c1, c2, c3, c4, c5], _ => exact ⟨c0, c1, c2, c3, c4, c5, rfl⟩
theorem open_agg6 {H : Type} {enc : TypeId × Value → H} {P : Program} {w : World} {base : Nat} {spare : Nat → Bool} {held : Bool} {r : Reach} {b0 : Nat} {t : TypeId} {f0 f1 f2 f3 f4 f5 : Field} {v : Value} {d : DataW H} {p : List MemPlace} (hs : P.underlying t = some (.struct #[f0, f1, f2, f3, f4, f5])) (hone : oneCellFields P #[f0, f1, f2, f3, f4, f5] = true) (hC : P.cellsOf t = 6)
    (hv : Value.okWide P w r b0 t v) (h : DataW.Trod enc P w base spare held t v d p) :
    ∃ (v0 v1 v2 v3 v4 v5 : Value) (y0 y1 y2 y3 y4 y5 : DataW H × List MemPlace) (n : Nat), v = .agg #[v0, v1, v2, v3, v4, v5] ∧
      DataW.trod enc P w base spare held n f0.type [v0] = some y0 ∧ DataW.trod enc P w base spare held n f1.type [v1] = some y1 ∧ DataW.trod enc P w base spare held n f2.type [v2] = some y2 ∧ DataW.trod enc P w base spare held n f3.type [v3] = some y3 ∧ DataW.trod enc P w base spare held n f4.type [v4] = some y4 ∧ DataW.trod enc P w base spare held n f5.type [v5] = some y5 := by
  obtain ⟨cs, rfl, hsz⟩ := okWide_struct hs hv
  obtain ⟨c0, c1, c2, c3, c4, c5, rfl⟩ := array6 (hsz.trans hC)
  obtain ⟨fuel, hf⟩ := h
  obtain ⟨xs, n, _, hx, hl, hlen, hk⟩ := DataW.trod_struct hs hf
  match xs, hlen with
  | [y0, y1, y2, y3, y4, y5], _ =>
    obtain ⟨o0, k0⟩ := hone_of hone 0 f0 rfl
    obtain ⟨o1, k1⟩ := hone_of hone 1 f1 rfl
    obtain ⟨o2, k2⟩ := hone_of hone 2 f2 rfl
    obtain ⟨o3, k3⟩ := hone_of hone 3 f3 rfl
    obtain ⟨o4, k4⟩ := hone_of hone 4 f4 rfl
    obtain ⟨o5, k5⟩ := hone_of hone 5 f5 rfl
    exact ⟨c0, c1, c2, c3, c4, c5, y0, y1, y2, y3, y4, y5, n, rfl, by simpa [Value.cells, o0, k0] using hk 0 f0 rfl, by simpa [Value.cells, o1, k1] using hk 1 f1 rfl, by simpa [Value.cells, o2, k2] using hk 2 f2 rfl, by simpa [Value.cells, o3, k3] using hk 3 f3 rfl, by simpa [Value.cells, o4, k4] using hk 4 f4 rfl, by simpa [Value.cells, o5, k5] using hk 5 f5 rfl⟩
theorem ints_sli {H : Type} {enc : TypeId × Value → H} {W : World} {fuel : Nat} {v : Value} {y : DataW H × List MemPlace} (h : DataW.trod enc Tryd.prog W 0 (fun _ => true) true fuel 22 [v] = some y) :
    ∃ (A : Option Addr) (n c : Nat) (V : List Int), v = .slice A n c ∧ SlI W.heap.size W A n c V := by
  rcases open_ints Tryd.underlying22 Tryd.underlying3 (by kernel_rfl) h with ⟨hcs, _⟩ | ⟨a, l, c, zs, hcs, _, hl, _, hz, _, hcell, _⟩
  · simp at hcs
    exact ⟨none, 0, 0, [], hcs, rfl, Nat.le_refl _, sl_nil _ _, fun h => absurd h (by omega)⟩
  · simp at hcs
    exact ⟨some a, l, c, zs.take l, hcs, sli_of hl (by simpa using hz) hcell⟩
instance : Inhabited PkE := ⟨⟨0, none, 0, 0, []⟩⟩
set_option maxRecDepth 100000 in
theorem pks_slk {H : Type} {enc : TypeId × Value → H} {W : World} {fuel : Nat} {v : Value} {y : DataW H × List MemPlace} (h : DataW.trod enc Tryd.prog W 0 (fun _ => true) true fuel 23 [v] = some y) :
    ∃ (B : Option Addr) (m d : Nat) (l : List PkE), v = .slice B m d ∧ SlK W B m d l := by
  rcases open_slice_pairs Tryd.underlying23 Tryd.underlying39 (by kernel_rfl) (by kernel_rfl) (by kernel_rfl) (by kernel_rfl) (by kernel_rfl) h with ⟨hcs, _⟩ | ⟨a, len, cap, m, n, V0, V1, D0, D1, P0, P1, hcs, _, hl, hm, hmm, _, hx⟩
  · simp at hcs
    exact ⟨none, 0, 0, [], hcs, rfl, Nat.le_refl _, sl_nil _ _, fun p h => by cases h⟩
  · simp at hcs
    have hlm : len ≤ m := by rw [hmm]; split <;> omega
    have each : ∀ i, i < len → ∃ p : PkE, W.cell? (a.add (i * 2)) = some (.int .i64 p.id) ∧ W.cell? (a.add (i * 2 + 1)) = some (.slice p.A p.n p.c) ∧ SlI W.heap.size W p.A p.n p.c p.V := by
      intro i hi
      obtain ⟨h0, h1, t0, t1⟩ := hx i (by omega)
      obtain ⟨x, e0, _, _⟩ := DataW.trod_int Tryd.underlying3 t0
      obtain ⟨A, k, c, V, e1, hs⟩ := ints_sli t1
      simp at e0
      exact ⟨⟨x, A, k, c, V⟩, by rw [h0, e0], by rw [h1, e1], hs⟩
    obtain ⟨f, hf⟩ := choose_lt each
    refine ⟨some a, len, cap, (List.range len).map f, hcs, by simp, hl, ⟨by rw [pkCells_length]; simp, (fun e => by cases e), fun ad ha j u hu => ?_⟩, fun p hp => ?_⟩
    · injection ha with ha
      subst ha
      have hj : j < len * 2 := by
        have := (List.getElem?_eq_some_iff.1 hu).1
        rw [pkCells_length] at this
        simpa using this
      have hq : j / 2 < len := by omega
      obtain ⟨g0, g1⟩ := pkCells_at ((List.range len).map f) (j / 2) (by simpa using hq)
      obtain ⟨c0, c1, _⟩ := hf (j / 2) hq
      rcases Nat.mod_two_eq_zero_or_one j with h2 | h2
      · have e : j / 2 * 2 = j := by omega
        rw [e] at g0 c0
        rw [g0] at hu
        rw [c0, ← hu]
        simp
      · have e : j / 2 * 2 + 1 = j := by omega
        rw [e] at g1 c1
        rw [g1] at hu
        rw [c1, ← hu]
        simp
    · obtain ⟨i, hi, rfl⟩ := List.mem_map.1 hp
      exact (hf i (List.mem_range.1 hi)).2.2
set_option maxRecDepth 100000 in
theorem msg_opened {H : Type} {enc : TypeId × Value → H} {W : World} {r : Reach} {b0 : Nat} {v : Value} {d : DataW H} {p : List MemPlace} (hv : Value.okWide Tryd.prog W r b0 25 v)
    (h : DataW.Trod enc Tryd.prog W 0 (fun _ => true) true 25 v d p) : ∃ (id t a o : Int) (A : Option Addr) (n c : Nat) (B : Option Addr) (m d : Nat) (V : List Int) (l : List PkE), v = .agg #[.int .i64 id, .int .i64 t, .int .i64 a, .int .i64 o, .slice A n c, .slice B m d] ∧ SlI W.heap.size W A n c V ∧ SlK W B m d l := by
  obtain ⟨v0, v1, v2, v3, v4, v5, y0, y1, y2, y3, y4, y5, n, rfl, h0, h1, h2, h3, h4, h5⟩ := open_agg6 Tryd.underlying25 (by kernel_rfl) (by kernel_rfl) hv h
  obtain ⟨x0, e0, _, _⟩ := DataW.trod_int Tryd.underlying3 h0
  obtain ⟨x1, e1, _, _⟩ := DataW.trod_int Tryd.underlying3 h1
  obtain ⟨x2, e2, _, _⟩ := DataW.trod_int Tryd.underlying3 h2
  obtain ⟨x3, e3, _, _⟩ := DataW.trod_int Tryd.underlying3 h3
  obtain ⟨A, k, c, V, e4, hs⟩ := ints_sli h4
  obtain ⟨B, m, dd, l, e5, hk⟩ := pks_slk h5
  simp at e0 e1 e2 e3
  subst e0 e1 e2 e3 e4 e5
  exact ⟨x0, x1, x2, x3, A, k, c, B, m, dd, V, l, rfl, hs, hk⟩
theorem bytesz_of {H : Type} {enc : TypeId × Value → H} {W : World} {A : Option Addr} {n c : Nat} {d : DataW H} {p : List MemPlace}
    (h : DataW.Trod enc Tryd.prog W 0 (fun _ => true) true 28 (.slice A n c) d p) : ∃ zs, InInts .u8 W A n zs ∧ n ≤ c ∧ (A = none → c = 0) := by
  obtain ⟨fuel, hf⟩ := h
  rcases open_ints Tryd.underlying28 Tryd.underlying5 (by kernel_rfl) hf with ⟨hcs, _⟩ | ⟨x, l, c, zs, hcs, _, hl, hm, hz, _, hcell, hwz⟩
  · simp [Value.cells] at hcs
    obtain ⟨rfl, rfl, rfl⟩ := hcs
    exact ⟨[], inInts_nil _ _ _, Nat.le_refl _, fun _ => rfl⟩
  · simp [Value.cells] at hcs
    obtain ⟨rfl, rfl, rfl⟩ := hcs
    exact ⟨zs.take n, inInts_of hl hm (by simpa using hz) hcell hwz, hl, fun e => by cases e⟩
end Go.Proofs.YtamnhnleipnhdaaDoor
