/-
  What a PDU that came in reads as; bytes with room.
-/
import Derived.Test.YtekcnmimfhiblaaOpenKey
import Derived.Test.YtekcnmimfhiblaaPdDec0
import Derived.Deep.Slices
namespace Go.Proofs.Ytekcnmimfhiblaa
open Go.ChangeShapes Go.WideShapes Go.ChangeAt Go.RowKit Go.Deep Go.Joins

theorem array7 {α : Type} {cs : Array α} (h : cs.size = 7) : ∃ c0 c1 c2 c3 c4 c5 c6, cs = #[c0, c1, c2, c3, c4, c5, c6] := by
  obtain ⟨l⟩ := cs
  match l, h with
  | [c0, c1, c2, c3, c4, c5, c6], _ => exact ⟨c0, c1, c2, c3, c4, c5, c6, rfl⟩
theorem open_agg7 {H : Type} {enc : TypeId × Value → H} {P : Program} {w : World} {base : Nat} {spare : Nat → Bool} {held : Bool} {r : Reach} {b0 : Nat} {t : TypeId} {f0 f1 f2 f3 f4 f5 f6 : Field} {v : Value} {d : DataW H} {p : List MemPlace} (hs : P.underlying t = some (.struct #[f0, f1, f2, f3, f4, f5, f6])) (hone : oneCellFields P #[f0, f1, f2, f3, f4, f5, f6] = true) (hC : P.cellsOf t = 7)
    (hv : Value.okWide P w r b0 t v) (h : DataW.Trod enc P w base spare held t v d p) :
    ∃ (v0 v1 v2 v3 v4 v5 v6 : Value) (y0 y1 y2 y3 y4 y5 y6 : DataW H × List MemPlace) (n : Nat), v = .agg #[v0, v1, v2, v3, v4, v5, v6] ∧
      DataW.trod enc P w base spare held n f0.type [v0] = some y0 ∧ DataW.trod enc P w base spare held n f1.type [v1] = some y1 ∧ DataW.trod enc P w base spare held n f2.type [v2] = some y2 ∧ DataW.trod enc P w base spare held n f3.type [v3] = some y3 ∧ DataW.trod enc P w base spare held n f4.type [v4] = some y4 ∧ DataW.trod enc P w base spare held n f5.type [v5] = some y5 ∧ DataW.trod enc P w base spare held n f6.type [v6] = some y6 := by
  obtain ⟨cs, rfl, hsz⟩ := okWide_struct hs hv
  obtain ⟨c0, c1, c2, c3, c4, c5, c6, rfl⟩ := array7 (hsz.trans hC)
  obtain ⟨fuel, hf⟩ := h
  obtain ⟨xs, n, _, hx, hl, hlen, hk⟩ := DataW.trod_struct hs hf
  match xs, hlen with
  | [y0, y1, y2, y3, y4, y5, y6], _ =>
    obtain ⟨o0, k0⟩ := hone_of hone 0 f0 rfl
    obtain ⟨o1, k1⟩ := hone_of hone 1 f1 rfl
    obtain ⟨o2, k2⟩ := hone_of hone 2 f2 rfl
    obtain ⟨o3, k3⟩ := hone_of hone 3 f3 rfl
    obtain ⟨o4, k4⟩ := hone_of hone 4 f4 rfl
    obtain ⟨o5, k5⟩ := hone_of hone 5 f5 rfl
    obtain ⟨o6, k6⟩ := hone_of hone 6 f6 rfl
    exact ⟨c0, c1, c2, c3, c4, c5, c6, y0, y1, y2, y3, y4, y5, y6, n, rfl, by simpa [Value.cells, o0, k0] using hk 0 f0 rfl, by simpa [Value.cells, o1, k1] using hk 1 f1 rfl, by simpa [Value.cells, o2, k2] using hk 2 f2 rfl, by simpa [Value.cells, o3, k3] using hk 3 f3 rfl, by simpa [Value.cells, o4, k4] using hk 4 f4 rfl, by simpa [Value.cells, o5, k5] using hk 5 f5 rfl, by simpa [Value.cells, o6, k6] using hk 6 f6 rfl⟩
theorem u64_nat9 {x : Int} (h : (Lit.int .u64 x).wf = true) : ∃ n : Nat, x = n ∧ n < 18446744073709551616 := by
  have hx : 0 ≤ x ∧ x ≤ 18446744073709551615 := by simpa [Lit.wf, IntKind.min, IntKind.max, IntKind.signed, IntKind.bits] using h
  exact ⟨x.toNat, by omega, by omega⟩
/-- Bytes of a slice that came in. -/
def InBody (w : World) (A : Option Addr) (n c : Nat) (xs : List Nat) : Prop := xs.length = n ∧ n ≤ c ∧ n ≤ maxLen ∧ Sl w 1 A n c (u8s xs) ∧ bytes8 xs
theorem body_of {H : Type} {enc : TypeId × Value → H} {W : World} {fuel : Nat} {v : Value} {y : DataW H × List MemPlace} (h : DataW.trod enc Try.prog W 0 (fun _ => true) true fuel 27 [v] = some y) :
    ∃ (A : Option Addr) (n c : Nat) (xs : List Nat), v = .slice A n c ∧ InBody W A n c xs := by
  rcases open_ints Try.underlying27 Try.underlying5 (by kernel_rfl) h with ⟨hcs, _⟩ | ⟨x, l, c, zs, hcs, _, hl, hm, hz, _, hcell, hwz⟩
  · simp at hcs
    exact ⟨none, 0, 0, [], hcs, rfl, Nat.le_refl _, Nat.zero_le _, sl_nil _ _, fun x hx => by cases hx⟩
  · simp at hcs
    have hb := (inInts_of hl hm (by simpa using hz) hcell hwz).bytes
    obtain ⟨h1, h2, h3, h4⟩ := hb
    refine ⟨some x, l, c, (zs.take l).map Int.toNat, hcs, h1, hl, h2, ?_, h4⟩
    have h5 := sl_bytes (c := c) h3 (fun e => by cases e)
    rw [h1] at h5
    exact h5
set_option maxRecDepth 100000 in
theorem pdu_open {H : Type} {enc : TypeId × Value → H} {W : World} {r : Reach} {b0 : Nat} {v : Value} {d : DataW H} {p : List MemPlace} (hv : Value.okWide Try.prog W r b0 30 v)
    (h : DataW.Trod enc Try.prog W 0 (fun _ => true) true 30 v d p) : ∃ (q : Pdu) (A : Option Addr) (c : Nat), v = pdV q A c ∧ q.ok ∧ q.body.length ≤ maxLen ∧ q.body.length ≤ c ∧ Sl W 1 A q.body.length c (u8s q.body) := by
  obtain ⟨v0, v1, v2, v3, v4, v5, v6, y0, y1, y2, y3, y4, y5, y6, n, rfl, h0, h1, h2, h3, h4, h5, h6⟩ := open_agg7 Try.underlying30 (by kernel_rfl) (by kernel_rfl) hv h
  obtain ⟨x0, e0, _, _⟩ := DataW.trod_int Try.underlying3 h0
  obtain ⟨x1, e1, _, _⟩ := DataW.trod_int Try.underlying3 h1
  obtain ⟨x2, e2, _, _⟩ := DataW.trod_int Try.underlying3 h2
  obtain ⟨x3, e3, _, w3⟩ := DataW.trod_int Try.underlying22 h3
  obtain ⟨x4, e4, _, w4⟩ := DataW.trod_int Try.underlying22 h4
  obtain ⟨A, m, c, xs, e5, hl, hc, hm, hsl, hb⟩ := body_of h5
  obtain ⟨x6, e6, _, w6⟩ := DataW.trod_int Try.underlying28 h6
  simp at e0 e1 e2 e3 e4 e6
  obtain ⟨a, rfl, ha⟩ := u32_nat w3
  obtain ⟨b, rfl, hbb⟩ := u32_nat w4
  obtain ⟨k, rfl, hk⟩ := u64_nat9 w6
  subst e0 e1 e2 e3 e4 e5 e6
  subst hl
  exact ⟨⟨x0, x1, x2, a, b, xs, k⟩, A, c, rfl, ⟨ha, hbb, hb, hk⟩, hm, hc, hsl⟩
theorem bytesb_of {H : Type} {enc : TypeId × Value → H} {W : World} {A : Option Addr} {n c : Nat} {d : DataW H} {p : List MemPlace}
    (h : DataW.Trod enc Try.prog W 0 (fun _ => true) true 27 (.slice A n c) d p) : ∃ xs, InBody W A n c xs := by
  obtain ⟨fuel, hf⟩ := h
  obtain ⟨A', n', c', xs, e, hb⟩ := body_of hf
  injection e with e1 e2 e3
  subst e1 e2 e3
  exact ⟨xs, hb⟩
end Go.Proofs.Ytekcnmimfhiblaa
