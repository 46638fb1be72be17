/-
  What an end of a connection that came in reads as.
-/
import Derived.Test.YtekcnmimfhiblaaOpenPd
import Derived.Test.YtekcnmimfhiblaaShRef
import Derived.ChangeArms
namespace Go.Proofs.Ytekcnmimfhiblaa
open Go.ChangeShapes Go.WideShapes Go.ChangeAt Go.RowKit Go.Deep Go.Joins

theorem array16 {α : Type} {cs : Array α} (h : cs.size = 16) : ∃ c0 c1 c2 c3 c4 c5 c6 c7 c8 c9 c10 c11 c12 c13 c14 c15, cs = #[c0, c1, c2, c3, c4, c5, c6, c7, c8, c9, c10, c11, c12, c13, c14, c15] := by
  obtain ⟨l⟩ := cs
  match l, h with
  | [c0, c1, c2, c3, c4, c5, c6, c7, c8, c9, c10, c11, c12, c13, c14, c15], _ => exact ⟨c0, c1, c2, c3, c4, c5, c6, c7, c8, c9, c10, c11, c12, c13, c14, c15, rfl⟩
theorem keyTrod {H : Type} {enc : TypeId × Value → H} {W : World} {fuel : Nat} {a b c d : Value} {y : DataW H × List MemPlace}
    (h : DataW.trod enc Try.prog W 0 (fun _ => true) true fuel 24 [a, b, c, d] = some y) : ∃ k : Key4, k.ok ∧ a = .int .u32 (k.a : Nat) ∧ b = .int .u32 (k.b : Nat) ∧ c = .int .u32 (k.c : Nat) ∧ d = .int .u32 (k.d : Nat) := by
  obtain ⟨y0, y1, y2, y3, n, _, h0, h1, h2, h3⟩ := trod_array4 Try.underlying24 (by kernel_rfl) h
  obtain ⟨a', e0, _, w0⟩ := DataW.trod_int Try.underlying22 h0
  obtain ⟨b', e1, _, w1⟩ := DataW.trod_int Try.underlying22 h1
  obtain ⟨c', e2, _, w2⟩ := DataW.trod_int Try.underlying22 h2
  obtain ⟨d', e3, _, w3⟩ := DataW.trod_int Try.underlying22 h3
  simp at e0 e1 e2 e3
  subst e0; subst e1; subst e2; subst e3
  obtain ⟨a, rfl, ha⟩ := u32_nat w0
  obtain ⟨b, rfl, hb⟩ := u32_nat w1
  obtain ⟨c, rfl, hc⟩ := u32_nat w2
  obtain ⟨d, rfl, hd⟩ := u32_nat w3
  exact ⟨⟨a, b, c, d⟩, ⟨ha, hb, hc, hd⟩, rfl, rfl, rfl, rfl⟩
set_option maxRecDepth 100000 in
set_option maxHeartbeats 2000000 in
theorem peer_open {H : Type} {enc : TypeId × Value → H} {W : World} {r : Reach} {b0 : Nat} {v : Value} {d : DataW H} {p : List MemPlace} (hv : Value.okWide Try.prog W r b0 26 v)
    (h : DataW.Trod enc Try.prog W 0 (fun _ => true) true 26 v d p) : ∃ q : Peer, v = prV q ∧ q.ok := by
  obtain ⟨cs, rfl, hsz⟩ := okWide_struct Try.underlying26 hv
  have hC : Try.prog.cellsOf 26 = 16 := by kernel_rfl
  have kI : Try.prog.cellsOf 3 = 1 := by kernel_rfl
  have kU : Try.prog.cellsOf 22 = 1 := by kernel_rfl
  have kB : Try.prog.cellsOf 4 = 1 := by kernel_rfl
  have kK : Try.prog.cellsOf 24 = 4 := by kernel_rfl
  obtain ⟨c0, c1, c2, c3, c4, c5, c6, c7, c8, c9, c10, c11, c12, c13, c14, c15, rfl⟩ := array16 (hsz.trans hC)
  obtain ⟨fuel, hf⟩ := h
  obtain ⟨xs, n, _, hx, hl, hlen, hk⟩ := DataW.trod_struct Try.underlying26 hf
  match xs, hlen with
  | [y0, y1, y2, y3, y4, y5, y6, y7, y8, y9], _ =>
    have h0 : DataW.trod enc Try.prog W 0 (fun _ => true) true n 3 [c0] = some y0 := by simpa [Value.cells, kI] using hk 0 _ rfl
    have h1 : DataW.trod enc Try.prog W 0 (fun _ => true) true n 3 [c1] = some y1 := by simpa [Value.cells, kI] using hk 1 _ rfl
    have h2 : DataW.trod enc Try.prog W 0 (fun _ => true) true n 24 [c2, c3, c4, c5] = some y2 := by simpa [Value.cells, kK] using hk 2 _ rfl
    have h3 : DataW.trod enc Try.prog W 0 (fun _ => true) true n 3 [c6] = some y3 := by simpa [Value.cells, kI] using hk 3 _ rfl
    have h4 : DataW.trod enc Try.prog W 0 (fun _ => true) true n 22 [c7] = some y4 := by simpa [Value.cells, kU] using hk 4 _ rfl
    have h5 : DataW.trod enc Try.prog W 0 (fun _ => true) true n 22 [c8] = some y5 := by simpa [Value.cells, kU] using hk 5 _ rfl
    have h6 : DataW.trod enc Try.prog W 0 (fun _ => true) true n 24 [c9, c10, c11, c12] = some y6 := by simpa [Value.cells, kK] using hk 6 _ rfl
    have h7 : DataW.trod enc Try.prog W 0 (fun _ => true) true n 4 [c13] = some y7 := by simpa [Value.cells, kB] using hk 7 _ rfl
    have h8 : DataW.trod enc Try.prog W 0 (fun _ => true) true n 22 [c14] = some y8 := by simpa [Value.cells, kU] using hk 8 _ rfl
    have h9 : DataW.trod enc Try.prog W 0 (fun _ => true) true n 22 [c15] = some y9 := by simpa [Value.cells, kU] using hk 9 _ rfl
    obtain ⟨x0, e0, _, _⟩ := DataW.trod_int Try.underlying3 h0
    obtain ⟨x1, e1, _, _⟩ := DataW.trod_int Try.underlying3 h1
    obtain ⟨k2, ko2, rfl, rfl, rfl, rfl⟩ := keyTrod h2
    obtain ⟨x3, e3, _, _⟩ := DataW.trod_int Try.underlying3 h3
    obtain ⟨x4, e4, _, w4⟩ := DataW.trod_int Try.underlying22 h4
    obtain ⟨x5, e5, _, w5⟩ := DataW.trod_int Try.underlying22 h5
    obtain ⟨k6, ko6, rfl, rfl, rfl, rfl⟩ := keyTrod h6
    obtain ⟨x7, e7, _⟩ := DataW.trod_bool Try.underlying4 h7
    obtain ⟨x8, e8, _, w8⟩ := DataW.trod_int Try.underlying22 h8
    obtain ⟨x9, e9, _, w9⟩ := DataW.trod_int Try.underlying22 h9
    simp at e0 e1 e3 e4 e5 e7 e8 e9
    obtain ⟨u4, rfl, hu4⟩ := u32_nat w4
    obtain ⟨u5, rfl, hu5⟩ := u32_nat w5
    obtain ⟨u8, rfl, hu8⟩ := u32_nat w8
    obtain ⟨u9, rfl, hu9⟩ := u32_nat w9
    subst e0 e1 e3 e4 e5 e7 e8 e9
    exact ⟨⟨x0, x1, k2, x3, u4, u5, k6, x7, u8, u9⟩, rfl, ko2, hu4, hu5, ko6, hu8, hu9⟩
end Go.Proofs.Ytekcnmimfhiblaa
