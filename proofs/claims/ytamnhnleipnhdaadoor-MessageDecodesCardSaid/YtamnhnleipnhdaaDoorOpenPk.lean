/-
  What arguments that came in read as: a packet by value; bools; bytes with room.
-/
import Derived.Test.YtamnhnleipnhdaaDoorMgA

import Derived.Test.YtamnhnleipnhdaaDoorMgD

import Derived.Deep.Slices

namespace Go.Proofs.YtamnhnleipnhdaaDoor

open Go.ChangeShapes Go.WideShapes Go.ChangeAt Go.RowKit Go.Deep Go.Joins

theorem sli_of {W : World} {x : Addr} {n c : Nat} {zs : List Int} (hl : n ≤ c) (hz : zs.length = c) (hcell : ∀ i, i < zs.length → W.cell? (x.add i) = some (.int .i64 (zs.getD i 0))) : SlI W.heap.size W (some x) n c (zs.take n) := by
  refine ⟨by simp; omega, hl, ⟨by simp [ints]; omega, fun e => (by cases e), fun ad ha j u hu => ?_⟩, fun hc a ha => ?_⟩
  · cases ha
    have hj : j < n ∧ j < zs.length := by
      have := (List.getElem?_eq_some_iff.1 hu).1
      simp [ints] at this
      omega
    rw [hcell j hj.2, ← hu]
    simp [ints, hj.1, List.getD_eq_getElem?_getD, List.getElem?_eq_getElem hj.2]
  · cases ha
    have h0 := hcell 0 (by omega)
    have h1 := cell_block h0
    rw [add_block] at h1
    exact h1
set_option maxRecDepth 100000 in
theorem pk_open {H : Type} {enc : TypeId × Value → H} {W : World} {r : Reach} {b0 : Nat} {v : Value} {d : DataW H} {p : List MemPlace} (hv : Value.okWide Tryd.prog W r b0 39 v)
    (h : DataW.Trod enc Tryd.prog W 0 (fun _ => true) true 39 v d p) : ∃ (id : Int) (A : Option Addr) (n c : Nat) (V : List Int), v = .agg #[.int .i64 id, .slice A n c] ∧ SlI W.heap.size W A n c V := by
  obtain ⟨v0, v1, y0, y1, m, rfl, _, _, h0, h1⟩ := open_agg2 Tryd.underlying39 (by kernel_rfl) (by kernel_rfl) hv h
  obtain ⟨x, e0, _, _⟩ := DataW.trod_int Tryd.underlying3 h0
  simp at e0
  subst e0
  rcases open_ints Tryd.underlying22 Tryd.underlying3 (by kernel_rfl) h1 with ⟨hcs, _⟩ | ⟨a, l, c, zs, hcs, _, hl, _, hz, _, hcell, _⟩
  · simp at hcs
    subst hcs
    exact ⟨x, none, 0, 0, [], rfl, rfl, Nat.le_refl _, sl_nil _ _, fun h => absurd h (by omega)⟩
  · simp at hcs
    subst hcs
    exact ⟨x, some a, l, c, zs.take l, rfl, sli_of hl (by simpa using hz) hcell⟩
theorem bytesn_of {H : Type} {enc : TypeId × Value → H} {W : World} {A : Option Addr} {n c : Nat} {d : DataW H} {p : List MemPlace}
    (h : DataW.Trod enc Tryd.prog W 0 (fun _ => true) true 28 (.slice A n c) d p) : ∃ zs, InInts .u8 W A n zs ∧ n ≤ c := by
  obtain ⟨fuel, hf⟩ := h
  rcases open_ints Tryd.underlying28 Tryd.underlying5 (by kernel_rfl) hf with ⟨hcs, _⟩ | ⟨x, l, c, zs, hcs, _, hl, hm, hz, _, hcell, hwz⟩
  · simp [Value.cells] at hcs
    obtain ⟨rfl, rfl, rfl⟩ := hcs
    exact ⟨[], inInts_nil _ _ _, Nat.le_refl _⟩
  · simp [Value.cells] at hcs
    obtain ⟨rfl, rfl, rfl⟩ := hcs
    exact ⟨zs.take n, inInts_of hl hm (by simpa using hz) hcell hwz, hl⟩
theorem choose_lt' {p : Nat → Bool → Prop} {n : Nat} (h : ∀ i, i < n → ∃ x, p i x) : ∃ f : Nat → Bool, ∀ i, i < n → p i (f i) := by
  refine ⟨fun i => if hi : i < n then (h i hi).choose else false, fun i hi => ?_⟩
  simp only [hi, dif_pos]
  exact (h i hi).choose_spec
theorem bools_of {H : Type} {enc : TypeId × Value → H} {W : World} {A : Option Addr} {n c : Nat} {d : DataW H} {p : List MemPlace}
    (h : DataW.Trod enc Tryd.prog W 0 (fun _ => true) true 71 (.slice A n c) d p) : ∃ l, SlB W A n c l := by
  obtain ⟨fuel, hf⟩ := h
  rcases open_slice1 Tryd.underlying71 (by kernel_rfl) hf with ⟨hcs, _⟩ | ⟨a, len, cap, m, k, V, D, Pl, hcs, _, hl, hm, hmm, _, hx⟩
  · simp [Value.cells] at hcs
    obtain ⟨rfl, rfl, rfl⟩ := hcs
    exact ⟨[], rfl, sl_nil _ _⟩
  · simp [Value.cells] at hcs
    obtain ⟨rfl, rfl, rfl⟩ := hcs
    have hlm : n ≤ m := by rw [hmm]; split <;> omega
    have each : ∀ i, i < n → ∃ x : Bool, W.cell? (a.add i) = some (.bool x) := by
      intro i hi
      obtain ⟨c0, t0⟩ := hx i (by omega)
      obtain ⟨x, e0, _⟩ := DataW.trod_bool Tryd.underlying4 t0
      simp at e0
      exact ⟨x, by rw [c0, e0]⟩
    obtain ⟨f, hf⟩ := choose_lt' each
    refine ⟨(List.range n).map f, by simp, by simp [bools], (fun e => by cases e), fun ad ha j u hu => ?_⟩
    injection ha with ha
    subst ha
    have hj : j < n := by
      have := (List.getElem?_eq_some_iff.1 hu).1
      simpa [bools] using this
    have e : (bools ((List.range n).map f))[j]? = some (.bool (f j)) := by simp [bools, hj]
    rw [e] at hu
    rw [hf j hj]
    exact hu
end Go.Proofs.YtamnhnleipnhdaaDoor
