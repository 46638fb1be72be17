/-
  What an argument that came in reads as: a slice of calls (each kept as a W0: Kind, T, Now, Body).
-/
import Derived.Test.YtbohoejikihnfaaOpenLk

namespace Go.Proofs.Ytbohoejikihnfaa

open Go.ChangeShapes Go.WideShapes Go.ChangeAt Go.RowKit Go.Deep Go.Joins

set_option maxRecDepth 100000 in
theorem ops_of12 {H : Type} {enc : TypeId × Value → H} {W : World} {fuel : Nat} {v : Value} {y : DataW H × List MemPlace} (h : DataW.trod enc Try.prog W 0 (fun _ => true) true fuel 42 [v] = some y) :
    ∃ (A : Option Addr) (c : Nat) (ws : List W0), v = .slice A ws.length c ∧ WsR (Old W) W A ws.length c ws := by
  rcases open_slice Try.underlying42 h with ⟨hcs, _⟩ | ⟨a, len, cap, m, k, D, Pl, hcs, _, hl, hm, hmm, _, hx⟩
  · simp at hcs
    exact ⟨none, 0, [], hcs, WsR.nil W⟩
  · simp at hcs
    have hlm : len ≤ m := by rw [hmm]; split <;> omega
    have each : ∀ i, i < len → ∃ x : W0 × Value, (∀ j u, (wtC x)[j]? = some u → W.cell? (a.add (i * 4 + j)) = some u) ∧ BodyR (Old W) W x.2 x.1.body := by
      intro i hi
      obtain ⟨cs', h1, h2⟩ := hx i (by omega)
      rw [show Try.prog.cellsOf 27 = 4 from by kernel_rfl] at h1
      obtain ⟨_, hlen, hcell⟩ := World.cells?_some h1
      obtain ⟨xs, q, _, _, _, hxl, hg⟩ := DataW.trod_struct Try.underlying27 h2
      match xs, hxl, cs', hlen with
      | [y0, y1, y2, y3], _, [v0, v1, v2, v3], _ =>
        have g0 : DataW.trod enc Try.prog W 0 (fun _ => true) true q 3 [v0] = some y0 := by simpa [show Try.prog.cellsOf 3 = 1 from by kernel_rfl] using hg 0 _ rfl
        have g1 : DataW.trod enc Try.prog W 0 (fun _ => true) true q 3 [v1] = some y1 := by simpa [show Try.prog.cellsOf 3 = 1 from by kernel_rfl] using hg 1 _ rfl
        have g2 : DataW.trod enc Try.prog W 0 (fun _ => true) true q 3 [v2] = some y2 := by simpa [show Try.prog.cellsOf 3 = 1 from by kernel_rfl] using hg 2 _ rfl
        have g3 : DataW.trod enc Try.prog W 0 (fun _ => true) true q 25 [v3] = some y3 := by simpa [show Try.prog.cellsOf 25 = 1 from by kernel_rfl] using hg 3 _ rfl
        obtain ⟨a0, e0, _, _⟩ := DataW.trod_int Try.underlying3 g0
        obtain ⟨a1, e1, _, _⟩ := DataW.trod_int Try.underlying3 g1
        obtain ⟨a2, e2, _, _⟩ := DataW.trod_int Try.underlying3 g2
        obtain ⟨ys, hb, _⟩ := body_of12 g3
        simp at e0 e1 e2
        subst e0 e1 e2
        refine ⟨(⟨a0, a1, a2, ys⟩, v3), fun j u hu => ?_, hb⟩
        have hj : j < 4 := (List.getElem?_eq_some_iff.1 hu).1
        have hc := hcell j (by omega)
        rw [add_add] at hc
        rw [hc, ← hu]
        rfl
    obtain ⟨f, hf⟩ := choose_lt (α := W0 × Value) each
    have hsl : Sl W 4 (some a) len cap (cellsW ((List.range len).map f)) := by
      refine ⟨by rw [cellsW_len]; simp, (fun e => by cases e), fun ad ha j u hu => ?_⟩
      cases ha
      have hjl : j < len * 4 := by
        have := (List.getElem?_eq_some_iff.1 hu).1
        rw [cellsW_len] at this
        simpa using this
      have hi : j / 4 < len := by omega
      have e : j / 4 * 4 + j % 4 = j := by omega
      have hil : j / 4 < ((List.range len).map f).length := by simpa using hi
      rw [← e] at hu ⊢
      rw [cellsW_at hil (by omega)] at hu
      refine (hf (j / 4) hi).1 _ _ ?_
      simpa using hu
    have hln : (((List.range len).map f).map (·.1)).length = len := by simp
    refine ⟨some a, cap, ((List.range len).map f).map (·.1), by rw [hln]; exact hcs, ?_⟩
    rw [hln]
    refine ⟨(List.range len).map f, rfl, by simp, ⟨hsl, sl_old12 hsl (by decide)⟩, fun p hp => ?_⟩
    obtain ⟨i, hi, rfl⟩ := List.mem_map.1 hp
    exact (hf i (by simpa using hi)).2
theorem inOps_of {H : Type} {enc : TypeId × Value → H} {W : World} {A : Option Addr} {n c : Nat} {d : DataW H} {p : List MemPlace}
    (h : DataW.Trod enc Try.prog W 0 (fun _ => true) true 42 (.slice A n c) d p) : ∃ ws, WsR (Old W) W A n c ws := by
  obtain ⟨fuel, hf⟩ := h
  obtain ⟨A', c', ws, e, hw⟩ := ops_of12 hf
  injection e with e1 e2 e3
  subst e1 e3
  exact ⟨ws, e2 ▸ hw⟩
end Go.Proofs.Ytbohoejikihnfaa
