/-
  linesidelaw01: a slice of items (a number and its width) that came in; the loop that puts them.
-/
import Derived.Test.YthaonojcfmnjpaaBitsAny
import Derived.Test.YthaonojcfmnjpaaLawAwake
import Derived.Deep.SlicePairs
namespace Go.Proofs.Ythaonojcfmnjpaa
open Go.ChangeShapes Go.WideShapes Go.ChangeAt Go.RowKit Go.Deep
open BitsM

def InItems (w : World) (A : Option Addr) (n : Nat) (l : List (Int × Int)) : Prop :=
  l.length = n ∧ n ≤ maxLen ∧ (0 < n → ∃ ad : Addr, A = some ad ∧ ∀ i, i < n → w.cell? (ad.add (i * 2)) = some (.int .i64 (l.getD i (0, 0)).1) ∧ w.cell? (ad.add (i * 2 + 1)) = some (.int .i64 (l.getD i (0, 0)).2)) ∧
  ∀ x ∈ l, (Lit.int .i64 x.1).wf = true ∧ (Lit.int .i64 x.2).wf = true

theorem inItems_of {H : Type} {enc : TypeId × Value → H} {W : World} {base : Nat} {spare : Nat → Bool} {held : Bool} {A : Option Addr} {n c : Nat} {d : DataW H} {p : List MemPlace}
    (h : DataW.Trod enc Try.prog W base spare held 22 (.slice A n c) d p) : ∃ l, InItems W A n l := by
  obtain ⟨fuel, hf⟩ := h
  rcases open_slice_pairs Try.underlying22 Try.underlying33 (by kernel_rfl) rfl rfl (by kernel_rfl) (by kernel_rfl) hf with ⟨hcs, _⟩ | ⟨a, len, cap, m, k, V0, V1, D0, D1, P0, P1, hcs, _, hl, hm, hmm, _, hx⟩
  · simp [Value.cells] at hcs
    obtain ⟨rfl, rfl, rfl⟩ := hcs
    exact ⟨[], rfl, by unfold maxLen; omega, fun h => absurd h (by omega), fun x hx => by simp at hx⟩
  · simp [Value.cells] at hcs
    obtain ⟨rfl, rfl, rfl⟩ := hcs
    have hlm : n ≤ m := by rw [hmm]; split <;> omega
    have each : ∀ i, i < n → ∃ x : Int × Int, W.cell? (a.add (i * 2)) = some (.int .i64 x.1) ∧ W.cell? (a.add (i * 2 + 1)) = some (.int .i64 x.2) ∧ (Lit.int .i64 x.1).wf = true ∧ (Lit.int .i64 x.2).wf = true := by
      intro i hi
      obtain ⟨c0, c1, t0, t1⟩ := hx i (by omega)
      obtain ⟨a0, e0, _, w0⟩ := DataW.trod_int Try.underlying3 t0
      obtain ⟨a1, e1, _, w1⟩ := DataW.trod_int Try.underlying3 t1
      simp at e0 e1
      exact ⟨(a0, a1), by rw [c0, e0], by rw [c1, e1], w0, w1⟩
    obtain ⟨f, hf⟩ := choose_lt each
    refine ⟨(List.range n).map f, by simp, by omega, fun _ => ⟨a, rfl, fun i hi => ?_⟩, fun x hx => ?_⟩
    · have e : ((List.range n).map f).getD i (0, 0) = f i := by simp [List.getD_eq_getElem?_getD, hi]
      rw [e]
      exact ⟨(hf i hi).1, (hf i hi).2.1⟩
    · simp only [List.mem_map, List.mem_range] at hx
      obtain ⟨i, hi, rfl⟩ := hx
      exact (hf i hi).2.2

theorem cell_inside {w : World} {a : Addr} {v : Value} (h : w.cell? a = some v) : a.block < w.heap.size := by
  rcases Nat.lt_or_ge a.block w.heap.size with h1 | h1
  · exact h1
  · exfalso
    have hn : w.heap[a.block]? = none := Array.getElem?_eq_none h1
    simp [World.cell?, hn] at h

theorem items_at {w wr : World} {A : Option Addr} {n : Nat} {l : List (Int × Int)} (h : InItems w A n l) (hb : Below w.heap.size w wr) {j : Nat} (hj : j < n) :
    ∃ b off, A = some ⟨b, off, none⟩ ∧ wr.cell? ⟨b, off + j * 2, none⟩ = some (.int .i64 (l.getD j (0, 0)).1) ∧ wr.cell? ⟨b, off + j * 2 + 1, none⟩ = some (.int .i64 (l.getD j (0, 0)).2) := by
  obtain ⟨_, _, hc, _⟩ := h
  obtain ⟨⟨b, off, spot⟩, rfl, hcell⟩ := hc (by omega)
  have hspot : spot = none := by simpa [Addr.add] using World.cell?_spot (hcell 0 (by omega)).1
  subst hspot
  refine ⟨b, off, rfl, ?_, ?_⟩
  · have h0 := (hcell j hj).1
    rw [add_plain] at h0
    rw [hb.cell (cell_inside h0)]
    exact h0
  · have h0 := (hcell j hj).2
    rw [add_plain] at h0
    rw [show off + j * 2 + 1 = off + (j * 2 + 1) from by omega, hb.cell (cell_inside h0)]
    exact h0

/-- What a writer holds behind the first j puts. -/
def puts (l : List (Int × Int)) (j : Nat) : List Bool := (l.take j).foldl (fun bs x => putB bs x.1 x.2) []
theorem puts_zero (l : List (Int × Int)) : puts l 0 = [] := by simp [puts]
theorem puts_succ (l : List (Int × Int)) (j : Nat) (h : j < l.length) : puts l (j + 1) = putB (puts l j) (l.getD j (0, 0)).1 (l.getD j (0, 0)).2 := by
  unfold puts
  rw [List.take_succ_eq_append_getElem h, List.foldl_append]
  simp [List.getD_eq_getElem?_getD, h]
theorem putB_len (bs : List Bool) (n k : Int) (h : bs.length ≤ 8184) : (putB bs n k).length ≤ 8184 := by
  unfold putB
  split
  · rename_i hk
    have := of_decide_eq_true hk
    rw [List.length_append, wbits_length]
    omega
  · exact h
end Go.Proofs.Ythaonojcfmnjpaa
