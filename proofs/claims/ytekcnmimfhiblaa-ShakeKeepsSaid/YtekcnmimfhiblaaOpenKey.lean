/-
  What a key that came in reads as: four words.
-/
import Derived.Test.YtekcnmimfhiblaaMgB
import Derived.Test.YtekcnmimfhiblaaCiKey
import Derived.Laws.IdiomArrays
namespace Go.Proofs.Ytekcnmimfhiblaa
open Go.ChangeShapes Go.WideShapes Go.ChangeAt Go.RowKit Go.Deep Go.Joins

set_option maxRecDepth 100000 in
theorem key_open {H : Type} {enc : TypeId × Value → H} {W : World} {r : Reach} {b0 : Nat} {v : Value} {d : DataW H} {p : List MemPlace} (hv : Value.okWide Try.prog W r b0 24 v)
    (h : DataW.Trod enc Try.prog W 0 (fun _ => true) true 24 v d p) : ∃ k : Key4, v = keyV k ∧ k.ok := by
  have ht : Try.prog.underlying 24 = some (.array 4 22) := Try.underlying24
  simp only [Value.okWide, ht] at hv
  obtain ⟨cs, rfl, hsz, _⟩ := hv
  have hc4 : Try.prog.cellsOf 24 = 4 := by kernel_rfl
  rw [hc4] at hsz
  obtain ⟨l, rfl⟩ : ∃ l : List Value, cs = ⟨l⟩ := ⟨cs.toList, rfl⟩
  match l, hsz with
  | [c0, c1, c2, c3], _ =>
    obtain ⟨fuel, hf⟩ := h
    obtain ⟨y0, y1, y2, y3, n, _, h0, h1, h2, h3⟩ := trod_array4 ht (by kernel_rfl) hf
    obtain ⟨a, e0, _, w0⟩ := DataW.trod_int Try.underlying22 h0
    obtain ⟨b, e1, _, w1⟩ := DataW.trod_int Try.underlying22 h1
    obtain ⟨c, e2, _, w2⟩ := DataW.trod_int Try.underlying22 h2
    obtain ⟨d, e3, _, w3⟩ := DataW.trod_int Try.underlying22 h3
    simp at e0 e1 e2 e3
    subst e0; subst e1; subst e2; subst e3
    obtain ⟨a, rfl, ha⟩ := u32_nat w0
    obtain ⟨b, rfl, hb⟩ := u32_nat w1
    obtain ⟨c, rfl, hc⟩ := u32_nat w2
    obtain ⟨d, rfl, hd⟩ := u32_nat w3
    exact ⟨⟨a, b, c, d⟩, rfl, ha, hb, hc, hd⟩
end Go.Proofs.Ytekcnmimfhiblaa
