/-
  What arguments that came in read as: a stamp by value; a slice of messages' times.
-/
import Derived.Test.YtjfndnpjcicogaaSpA
import Derived.ProofKit
import Derived.OpenShut
import Derived.Deep.Slices
import Derived.Lib.SmallJoins
import Derived.Deep.SlicePairs
import Derived.ChangeArms
namespace Go.Proofs.Ytjfndnpjcicogaa
open Go.ChangeShapes Go.WideShapes Go.ChangeAt Go.RowKit Go.Deep Go.Joins

theorem stamp_open {H : Type} {enc : TypeId × Value → H} {W : World} {r : Reach} {b0 : Nat} {v : Value} {d : DataW H} {p : List MemPlace} (hv : Value.okWide Try.prog W r b0 23 v)
    (h : DataW.Trod enc Try.prog W 0 (fun _ => true) true 23 v d p) : ∃ s : Stp, v = stV s := by
  obtain ⟨v0, v1, v2, v3, y0, y1, y2, y3, n, rfl, _, _, h0, h1, h2, h3⟩ := open_agg4 Try.underlying23 (by kernel_rfl) (by kernel_rfl) hv h
  obtain ⟨x0, e0, _, _⟩ := DataW.trod_int Try.underlying3 h0
  obtain ⟨x1, e1, _, _⟩ := DataW.trod_int Try.underlying3 h1
  obtain ⟨x2, e2, _, _⟩ := DataW.trod_int Try.underlying3 h2
  obtain ⟨x3, e3, _⟩ := DataW.trod_bool Try.underlying4 h3
  simp at e0 e1 e2 e3
  subst e0 e1 e2 e3
  exact ⟨⟨x0, x1, x2, x3⟩, rfl⟩

/-- A message's time, when it came, and whether the stamp was released ahead of it. -/
structure Cm where
  t : Int
  now : Int
  free : Bool
def cm0 : Cm := ⟨0, 0, false⟩
instance : Inhabited Cm := ⟨cm0⟩
/-- A slice that came in, of n structs: its elements are l. -/
def InCame (w : World) (A : Option Addr) (n : Nat) (l : List Cm) : Prop :=
  l.length = n ∧ n ≤ maxLen ∧ (0 < n → ∃ ad : Addr, A = some ad ∧ ∀ i, i < n → w.cell? (ad.add (i * 3)) = some (.int .i64 (l.getD i cm0).t) ∧ w.cell? (ad.add (i * 3 + 1)) = some (.int .i64 (l.getD i cm0).now) ∧ w.cell? (ad.add (i * 3 + 2)) = some (.bool (l.getD i cm0).free))
theorem came_of {H : Type} {enc : TypeId × Value → H} {W : World} {base : Nat} {spare : Nat → Bool} {held : Bool} {A : Option Addr} {n c : Nat} {d : DataW H} {p : List MemPlace}
    (h : DataW.Trod enc Try.prog W base spare held 35 (.slice A n c) d p) : ∃ l, InCame W A n l := by
  obtain ⟨fuel, hf⟩ := h
  rcases open_slice Try.underlying35 hf with ⟨hcs, _⟩ | ⟨a, len, cap, m, k, D, Pl, hcs, _, hl, hm, hmm, _, hx⟩
  · simp [Value.cells] at hcs
    obtain ⟨rfl, rfl, rfl⟩ := hcs
    exact ⟨[], rfl, by unfold maxLen; omega, fun h => absurd h (by omega)⟩
  · simp [Value.cells] at hcs
    obtain ⟨rfl, rfl, rfl⟩ := hcs
    have hlm : n ≤ m := by rw [hmm]; split <;> omega
    have each : ∀ i, i < n → ∃ x : Cm, W.cell? (a.add (i * 3)) = some (.int .i64 x.t) ∧ W.cell? (a.add (i * 3 + 1)) = some (.int .i64 x.now) ∧ W.cell? (a.add (i * 3 + 2)) = some (.bool x.free) := by
      intro i hi
      obtain ⟨cs', h1, h2⟩ := hx i (by omega)
      rw [show Try.prog.cellsOf 37 = 3 from by kernel_rfl] at h1
      obtain ⟨_, hlen, hcell⟩ := World.cells?_some h1
      obtain ⟨xs, q, _, _, _, hxl, hg⟩ := DataW.trod_struct Try.underlying37 h2
      match xs, hxl, cs', hlen with
      | [y0, y1, y2], _, [v0, v1, v2], _ =>
        have g0 : DataW.trod enc Try.prog W base spare held q 3 [v0] = some y0 := by simpa [show Try.prog.cellsOf 3 = 1 from by kernel_rfl] using hg 0 _ rfl
        obtain ⟨a0, e0, _, _⟩ := DataW.trod_int Try.underlying3 g0
        simp at e0
        subst e0
        have c0 := hcell 0 (by omega)
        have g1 : DataW.trod enc Try.prog W base spare held q 3 [v1] = some y1 := by simpa [show Try.prog.cellsOf 3 = 1 from by kernel_rfl] using hg 1 _ rfl
        obtain ⟨a1, e1, _, _⟩ := DataW.trod_int Try.underlying3 g1
        simp at e1
        subst e1
        have c1 := hcell 1 (by omega)
        have g2 : DataW.trod enc Try.prog W base spare held q 4 [v2] = some y2 := by simpa [show Try.prog.cellsOf 4 = 1 from by kernel_rfl] using hg 2 _ rfl
        obtain ⟨a2, e2, _⟩ := DataW.trod_bool Try.underlying4 g2
        simp at e2
        subst e2
        have c2 := hcell 2 (by omega)
        rw [add_add] at c0 c1 c2
        exact ⟨⟨a0, a1, a2⟩, by simpa using c0, by simpa using c1, by simpa using c2⟩
    obtain ⟨f, hf⟩ := choose_lt (α := Cm) each
    refine ⟨(List.range n).map f, by simp, by omega, fun _ => ⟨a, rfl, fun i hi => ?_⟩⟩
    have e : ((List.range n).map f).getD i cm0 = f i := by simp [List.getD_eq_getElem?_getD, hi]
    rw [e]
    exact hf i hi
theorem came_low {w wr : World} {A : Option Addr} {n : Nat} {l : List Cm} (h : InCame w A n l) (hb : Below w.heap.size w wr) {i : Nat} (hi : i < n) :
    ∃ b off, A = some ⟨b, off, none⟩ ∧ b < w.heap.size ∧ wr.cell? ⟨b, off + i * 3, none⟩ = some (.int .i64 (l.getD i cm0).t) ∧ wr.cell? ⟨b, off + i * 3 + 1, none⟩ = some (.int .i64 (l.getD i cm0).now) ∧ wr.cell? ⟨b, off + i * 3 + 2, none⟩ = some (.bool (l.getD i cm0).free) := by
  obtain ⟨⟨b, off, spot⟩, rfl, hc⟩ := h.2.2 (by omega)
  have hspot : spot = none := by simpa [Addr.add] using World.cell?_spot (hc 0 (by omega)).1
  subst hspot
  have h0 := hc i hi
  simp only [Go.WideShapes.add_plain, ← Nat.add_assoc] at h0
  obtain ⟨h0, h1, h2⟩ := h0
  refine ⟨b, off, rfl, cell_block h0, ?_, ?_, ?_⟩
  · rw [hb.cell (cell_block h0)]; exact h0
  · rw [hb.cell (cell_block h1)]; exact h1
  · rw [hb.cell (cell_block h2)]; exact h2
end Go.Proofs.Ytjfndnpjcicogaa
