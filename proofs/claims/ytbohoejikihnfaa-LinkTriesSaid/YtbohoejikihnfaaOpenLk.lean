/-
  What arguments that came in read as: bytes; a session by value; a call by value.
-/
import Derived.Test.YtbohoejikihnfaaLkMem

import Derived.ProofKit

import Derived.OpenShut

import Derived.Deep.Slices

import Derived.Lib.SmallJoins

import Derived.ChangeArms

namespace Go.Proofs.Ytbohoejikihnfaa

open Go.ChangeShapes Go.WideShapes Go.ChangeAt Go.RowKit Go.Deep Go.Joins

instance : Inhabited (W0 × Value) := ⟨(⟨0, 0, 0, []⟩, .bool false)⟩
/-- Blocks that were there when the call began. -/
abbrev Old (W : World) : Nat → Prop := fun b => b < W.heap.size
theorem sl_old12 {W : World} {s n c : Nat} {A : Option Addr} {vs : List Value} (h : Sl W s A n c vs) (hs : 0 < s) : ∀ ad, A = some ad → 0 < n → Old W ad.block := fun ad ha h0 => by
  have hl : 0 < vs.length := by rw [h.1]; exact Nat.mul_pos h0 hs
  have h1 := cell_block (h.2.2 ad ha 0 _ (List.getElem?_eq_getElem hl))
  rw [add_block11] at h1
  exact h1
theorem body_of12 {H : Type} {enc : TypeId × Value → H} {W : World} {fuel : Nat} {v : Value} {y : DataW H × List MemPlace} (h : DataW.trod enc Try.prog W 0 (fun _ => true) true fuel 25 [v] = some y) :
    ∃ xs : List Nat, BodyR (Old W) W v xs ∧ xs.length ≤ maxLen := by
  rcases open_ints Try.underlying25 Try.underlying5 (by kernel_rfl) h with ⟨hcs, _⟩ | ⟨x, l, c, zs, hcs, _, hl, hm, hz, _, hcell, hwz⟩
  · simp at hcs
    exact ⟨[], ⟨none, 0, hcs, sl_nil _ _, (fun x hx => by cases hx), fun ad h => by cases h⟩, Nat.zero_le _⟩
  · simp at hcs
    obtain ⟨h1, h2, h3, h4⟩ := (inInts_of hl hm (by simpa using hz) hcell hwz).bytes
    have hsl : Sl W 1 (some x) ((zs.take l).map Int.toNat).length c (u8s ((zs.take l).map Int.toNat)) := by
      refine ⟨by rw [u8s_length]; omega, (fun e => by cases e), fun ad ha j u hu => ?_⟩
      cases ha
      have hp : 0 < ((zs.take l).map Int.toNat).length := by
        have := (List.getElem?_eq_some_iff.1 hu).1
        rw [u8s_length] at this
        omega
      obtain ⟨ad, e, hc⟩ := h3 hp
      cases e
      exact hc j u hu
    refine ⟨(zs.take l).map Int.toNat, ⟨some x, c, by rw [h1]; exact hcs, hsl, h4, sl_old12 hsl (by decide)⟩, by omega⟩
theorem bytes_of12 {H : Type} {enc : TypeId × Value → H} {W : World} {A : Option Addr} {n c : Nat} {d : DataW H} {p : List MemPlace}
    (h : DataW.Trod enc Try.prog W 0 (fun _ => true) true 25 (.slice A n c) d p) : ∃ xs, BodyR (Old W) W (.slice A n c) xs ∧ xs.length = n := by
  obtain ⟨fuel, hf⟩ := h
  obtain ⟨xs, hb, _⟩ := body_of12 hf
  have hb2 := hb
  obtain ⟨A', c', e, _⟩ := hb2
  injection e with e1 e2 e3
  exact ⟨xs, hb, e2.symm⟩
set_option maxRecDepth 100000 in
theorem ws_of12 {H : Type} {enc : TypeId × Value → H} {W : World} {fuel : Nat} {v : Value} {y : DataW H × List MemPlace} (h : DataW.trod enc Try.prog W 0 (fun _ => true) true fuel 22 [v] = some y) :
    ∃ (A : Option Addr) (c : Nat) (ws : List W0), v = .slice A ws.length c ∧ WsR (Old W) W A ws.length c ws := by
  rcases open_slice Try.underlying22 h with ⟨hcs, _⟩ | ⟨a, len, cap, m, k, D, Pl, hcs, _, hl, hm, hmm, _, hx⟩
  · simp at hcs
    exact ⟨none, 0, [], hcs, WsR.nil W⟩
  · simp at hcs
    have hlm : len ≤ m := by rw [hmm]; split <;> omega
    have each : ∀ i, i < len → ∃ x : W0 × Value, (∀ j u, (wtC x)[j]? = some u → W.cell? (a.add (i * 4 + j)) = some u) ∧ BodyR (Old W) W x.2 x.1.body := by
      intro i hi
      obtain ⟨cs', h1, h2⟩ := hx i (by omega)
      rw [show Try.prog.cellsOf 48 = 4 from by kernel_rfl] at h1
      obtain ⟨_, hlen, hcell⟩ := World.cells?_some h1
      obtain ⟨xs, q, _, _, _, hxl, hg⟩ := DataW.trod_struct Try.underlying48 h2
      match xs, hxl, cs', hlen with
      | [y0, y1, y2, y3], _, [v0, v1, v2, v3], _ =>
        have g0 : DataW.trod enc Try.prog W 0 (fun _ => true) true q 3 [v0] = some y0 := by simpa [show Try.prog.cellsOf 3 = 1 from by kernel_rfl] using hg 0 _ rfl
        have g1 : DataW.trod enc Try.prog W 0 (fun _ => true) true q 3 [v1] = some y1 := by simpa [show Try.prog.cellsOf 3 = 1 from by kernel_rfl] using hg 1 _ rfl
        have g2 : DataW.trod enc Try.prog W 0 (fun _ => true) true q 3 [v2] = some y2 := by simpa [show Try.prog.cellsOf 3 = 1 from by kernel_rfl] using hg 2 _ rfl
        have g3 : DataW.trod enc Try.prog W 0 (fun _ => true) true q 25 [v3] = some y3 := by simpa [show Try.prog.cellsOf 25 = 1 from by kernel_rfl] using hg 3 _ rfl
        obtain ⟨a0, e0, _, _⟩ := DataW.trod_int Try.underlying3 g0
        obtain ⟨a1, e1, _, _⟩ := DataW.trod_int Try.underlying3 g1
        obtain ⟨a2, e2, _, _⟩ := DataW.trod_int Try.underlying3 g2
        obtain ⟨ys, hb, _⟩ := body_of12 g3
        simp at e0 e1 e2
        subst e0 e1 e2
        refine ⟨(⟨a0, a1, a2, ys⟩, v3), fun j u hu => ?_, hb⟩
        have hj : j < 4 := (List.getElem?_eq_some_iff.1 hu).1
        have hc := hcell j (by omega)
        rw [add_add] at hc
        rw [hc, ← hu]
        rfl
    obtain ⟨f, hf⟩ := choose_lt (α := W0 × Value) each
    have hsl : Sl W 4 (some a) len cap (cellsW ((List.range len).map f)) := by
      refine ⟨by rw [cellsW_len]; simp, (fun e => by cases e), fun ad ha j u hu => ?_⟩
      cases ha
      have hjl : j < len * 4 := by
        have := (List.getElem?_eq_some_iff.1 hu).1
        rw [cellsW_len] at this
        simpa using this
      have hi : j / 4 < len := by omega
      have e : j / 4 * 4 + j % 4 = j := by omega
      have hil : j / 4 < ((List.range len).map f).length := by simpa using hi
      rw [← e] at hu ⊢
      rw [cellsW_at hil (by omega)] at hu
      refine (hf (j / 4) hi).1 _ _ ?_
      simpa using hu
    have hln : (((List.range len).map f).map (·.1)).length = len := by simp
    refine ⟨some a, cap, ((List.range len).map f).map (·.1), by rw [hln]; exact hcs, ?_⟩
    rw [hln]
    refine ⟨(List.range len).map f, rfl, by simp, ⟨hsl, sl_old12 hsl (by decide)⟩, fun p hp => ?_⟩
    obtain ⟨i, hi, rfl⟩ := List.mem_map.1 hp
    exact (hf i (by simpa using hi)).2
theorem link_open {H : Type} {enc : TypeId × Value → H} {W : World} {r : Reach} {b0 : Nat} {v : Value} {d : DataW H} {p : List MemPlace} (hv : Value.okWide Try.prog W r b0 24 v)
    (h : DataW.Trod enc Try.prog W 0 (fun _ => true) true 24 v d p) : ∃ (l : L0) (A : Option Addr) (c : Nat), v = .agg (lkC l A c) ∧ WsR (Old W) W A l.ws.length c l.ws := by
  obtain ⟨cs, rfl, hsz⟩ := okWide_struct Try.underlying24 hv
  have hC : Try.prog.cellsOf 24 = 5 := by kernel_rfl
  have kI : Try.prog.cellsOf 3 = 1 := by kernel_rfl
  have kW : Try.prog.cellsOf 22 = 1 := by kernel_rfl
  obtain ⟨fuel, hf⟩ := h
  obtain ⟨xs, n, _, hx, hl, hlen, hk⟩ := DataW.trod_struct Try.underlying24 hf
  obtain ⟨cl⟩ := cs
  match cl, hsz.trans hC, xs, hlen with
  | [c0, c1, c2, c3, c4], _, [y0, y1, y2, y3, y4], _ =>
    have h0 : DataW.trod enc Try.prog W 0 (fun _ => true) true n 3 [c0] = some y0 := by simpa [Value.cells, kI] using hk 0 _ rfl
    have h1 : DataW.trod enc Try.prog W 0 (fun _ => true) true n 3 [c1] = some y1 := by simpa [Value.cells, kI] using hk 1 _ rfl
    have h2 : DataW.trod enc Try.prog W 0 (fun _ => true) true n 3 [c2] = some y2 := by simpa [Value.cells, kI] using hk 2 _ rfl
    have h3 : DataW.trod enc Try.prog W 0 (fun _ => true) true n 3 [c3] = some y3 := by simpa [Value.cells, kI] using hk 3 _ rfl
    have h4 : DataW.trod enc Try.prog W 0 (fun _ => true) true n 22 [c4] = some y4 := by simpa [Value.cells, kW] using hk 4 _ rfl
    obtain ⟨x0, e0, _, _⟩ := DataW.trod_int Try.underlying3 h0
    obtain ⟨x1, e1, _, _⟩ := DataW.trod_int Try.underlying3 h1
    obtain ⟨x2, e2, _, _⟩ := DataW.trod_int Try.underlying3 h2
    obtain ⟨x3, e3, _, _⟩ := DataW.trod_int Try.underlying3 h3
    obtain ⟨A, c, ws, rfl, hws⟩ := ws_of12 h4
    simp at e0 e1 e2 e3
    subst e0 e1 e2 e3
    exact ⟨⟨x0, x1, x2, x3, ws⟩, A, c, rfl, hws⟩
theorem op_open {H : Type} {enc : TypeId × Value → H} {W : World} {r : Reach} {b0 : Nat} {v : Value} {d : DataW H} {p : List MemPlace} (hv : Value.okWide Try.prog W r b0 27 v)
    (h : DataW.Trod enc Try.prog W 0 (fun _ => true) true 27 v d p) : ∃ (kd t now : Int) (B : Option Addr) (d : Nat) (xs : List Nat), v = .agg #[.int .i64 kd, .int .i64 t, .int .i64 now, .slice B xs.length d] ∧ BodyR (Old W) W (.slice B xs.length d) xs := by
  obtain ⟨v0, v1, v2, v3, y0, y1, y2, y3, n, rfl, _, _, h0, h1, h2, h3⟩ := open_agg4 Try.underlying27 (by kernel_rfl) (by kernel_rfl) hv h
  obtain ⟨x0, e0, _, _⟩ := DataW.trod_int Try.underlying3 h0
  obtain ⟨x1, e1, _, _⟩ := DataW.trod_int Try.underlying3 h1
  obtain ⟨x2, e2, _, _⟩ := DataW.trod_int Try.underlying3 h2
  obtain ⟨xs, hb, _⟩ := body_of12 h3
  have hb2 := hb
  obtain ⟨B, c, rfl, _⟩ := hb2
  simp at e0 e1 e2
  subst e0 e1 e2
  exact ⟨x0, x1, x2, B, c, xs, rfl, hb⟩
end Go.Proofs.Ytbohoejikihnfaa
