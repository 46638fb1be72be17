/-
  What arguments that came in read as: a track by value; a step by value.
-/
import Derived.Test.YteioefgckigbcaaTpRefC

import Derived.ProofKit

import Derived.OpenShut

import Derived.Deep.Slices

import Derived.Lib.SmallJoins

import Derived.ChangeArms

namespace Go.Proofs.Yteioefgckigbcaa

open Go.ChangeShapes Go.WideShapes Go.ChangeAt Go.RowKit Go.Deep Go.Joins

instance inhO13 : Inhabited St3 := ⟨⟨0, false⟩⟩
instance : Inhabited Jt3 := ⟨⟨(0, 0), (0, 0)⟩⟩
instance : Inhabited Bl3 := ⟨⟨0, 0, 0⟩⟩
instance : Inhabited (Rt3 × Value) := ⟨(⟨0, [], 0, 0⟩, .bool false)⟩
/-- A slice that came in, of structs that read as f says. -/
theorem slo_open13 {α : Type} [Inhabited α] {f : α → List Value} {k : Nat} (hk : 0 < k) (hfl : ∀ x, (f x).length = k) {ts te : TypeId} (hu : Try.prog.underlying ts = some (.slice te)) (hc : Try.prog.cellsOf te = k) {H : Type} {enc : TypeId × Value → H} {W : World} {Q : α → Prop}
    (hel : ∀ fuel cs y, cs.length = k → DataW.trod enc Try.prog W 0 (fun _ => true) true fuel te cs = some y → ∃ x : α, cs = f x ∧ Q x) {fuel : Nat} {v : Value} {y : DataW H × List MemPlace} (h : DataW.trod enc Try.prog W 0 (fun _ => true) true fuel ts [v] = some y) :
    ∃ (A : Option Addr) (c : Nat) (l : List α), v = .slice A l.length c ∧ SlO f k W A l.length c l ∧ l.length ≤ c ∧ ∀ x ∈ l, Q x := by
  rcases open_slice hu h with ⟨hcs, _⟩ | ⟨a, len, cap, m, q, D, Pl, hcs, _, hl, hm, hmm, _, hx⟩
  · simp at hcs
    exact ⟨none, 0, [], hcs, SlO.nil f k W, Nat.le_refl _, fun x h => by cases h⟩
  · simp at hcs
    have hlm : len ≤ m := by rw [hmm]; split <;> omega
    have each : ∀ i, i < len → ∃ x : α, (∀ j u, (f x)[j]? = some u → W.cell? (a.add (i * k + j)) = some u) ∧ Q x := by
      intro i hi
      obtain ⟨cs', h1, h2⟩ := hx i (by omega)
      rw [hc] at h1
      obtain ⟨_, hlen, hcell⟩ := World.cells?_some h1
      obtain ⟨x, rfl, hq⟩ := hel _ cs' _ hlen h2
      refine ⟨x, fun j u hu => ?_, hq⟩
      have hj : j < k := by rw [← hfl x]; exact (List.getElem?_eq_some_iff.1 hu).1
      have hc2 := hcell j (by omega)
      rw [add_add] at hc2
      rw [hc2, ← hu]
    obtain ⟨g, hg⟩ := choose_lt (α := α) each
    have hln : ((List.range len).map g).length = len := by simp
    have hsl : Sl W k (some a) len cap (((List.range len).map g).flatMap f) := by
      refine ⟨by rw [flat_len hfl, hln], (fun e => by cases e), fun ad ha j u hu => ?_⟩
      cases ha
      have hjl : j < len * k := by
        have := (List.getElem?_eq_some_iff.1 hu).1
        rw [flat_len hfl, hln] at this
        exact this
      have hi : j / k < len := Nat.div_lt_of_lt_mul (by rw [Nat.mul_comm]; exact hjl)
      have e : j / k * k + j % k = j := by rw [Nat.mul_comm]; exact Nat.div_add_mod j k
      have hmk : j % k < k := Nat.mod_lt _ hk
      have hgi : ((List.range len).map g)[j / k]? = some (g (j / k)) := by simp [hi]
      rw [← e] at hu ⊢
      rw [flat_at hfl hgi hmk] at hu
      exact (hg (j / k) hi).1 _ _ hu
    refine ⟨some a, cap, (List.range len).map g, by rw [hln]; exact hcs, by rw [hln]; exact ⟨hln, hsl⟩, by rw [hln]; exact hl, fun x hx => ?_⟩
    obtain ⟨i, hi, rfl⟩ := List.mem_map.1 hx
    exact (hg i (by simpa using hi)).2

section

variable {H : Type} {enc : TypeId × Value → H} {W : World}
set_option maxRecDepth 100000 in
theorem el_int13 (fuel : Nat) (cs : List Value) (y : DataW H × List MemPlace) (hl : cs.length = 1) (h : DataW.trod enc Try.prog W 0 (fun _ => true) true fuel 3 cs = some y) : ∃ x : Int, cs = inC x ∧ True := by
  match cs, hl with
  | [v], _ =>
    obtain ⟨a, e, _, _⟩ := DataW.trod_int Try.underlying3 h
    simp at e
    subst e
    exact ⟨a, rfl, trivial⟩
set_option maxRecDepth 100000 in
theorem el_end13 (fuel : Nat) (cs : List Value) (y : DataW H × List MemPlace) (hl : cs.length = 2) (h : DataW.trod enc Try.prog W 0 (fun _ => true) true fuel 69 cs = some y) : ∃ x : Int × Int, cs = [.int .i64 x.1, .int .i64 x.2] := by
  have kI : Try.prog.cellsOf 3 = 1 := by kernel_rfl
  obtain ⟨xs, n, _, _, _, hxl, hg⟩ := DataW.trod_struct Try.underlying69 h
  match cs, hl, xs, hxl with
  | [v0, v1], _, [y0, y1], _ =>
    have g0 : DataW.trod enc Try.prog W 0 (fun _ => true) true n 3 [v0] = some y0 := by simpa [kI] using hg 0 _ rfl
    have g1 : DataW.trod enc Try.prog W 0 (fun _ => true) true n 3 [v1] = some y1 := by simpa [kI] using hg 1 _ rfl
    obtain ⟨a0, e0, _, _⟩ := DataW.trod_int Try.underlying3 g0
    obtain ⟨a1, e1, _, _⟩ := DataW.trod_int Try.underlying3 g1
    simp at e0 e1
    subst e0 e1
    exact ⟨(a0, a1), rfl⟩
set_option maxRecDepth 100000 in
theorem el_joint13 (fuel : Nat) (cs : List Value) (y : DataW H × List MemPlace) (hl : cs.length = 4) (h : DataW.trod enc Try.prog W 0 (fun _ => true) true fuel 71 cs = some y) : ∃ x : Jt3, cs = jtC x ∧ True := by
  have kE : Try.prog.cellsOf 69 = 2 := by kernel_rfl
  obtain ⟨xs, n, _, _, _, hxl, hg⟩ := DataW.trod_struct Try.underlying71 h
  match cs, hl, xs, hxl with
  | [v0, v1, v2, v3], _, [y0, y1], _ =>
    have g0 : DataW.trod enc Try.prog W 0 (fun _ => true) true n 69 [v0, v1] = some y0 := by simpa [kE] using hg 0 _ rfl
    have g1 : DataW.trod enc Try.prog W 0 (fun _ => true) true n 69 [v2, v3] = some y1 := by simpa [kE] using hg 1 _ rfl
    obtain ⟨a0, e0⟩ := el_end13 _ _ _ rfl g0
    obtain ⟨a1, e1⟩ := el_end13 _ _ _ rfl g1
    simp at e0 e1
    obtain ⟨rfl, rfl⟩ := e0
    obtain ⟨rfl, rfl⟩ := e1
    exact ⟨⟨a0, a1⟩, rfl, trivial⟩
set_option maxRecDepth 100000 in
theorem el_bal13 (fuel : Nat) (cs : List Value) (y : DataW H × List MemPlace) (hl : cs.length = 3) (h : DataW.trod enc Try.prog W 0 (fun _ => true) true fuel 73 cs = some y) : ∃ x : Bl3, cs = blC x ∧ True := by
  have kI : Try.prog.cellsOf 3 = 1 := by kernel_rfl
  obtain ⟨xs, n, _, _, _, hxl, hg⟩ := DataW.trod_struct Try.underlying73 h
  match cs, hl, xs, hxl with
  | [v0, v1, v2], _, [y0, y1, y2], _ =>
    have g0 : DataW.trod enc Try.prog W 0 (fun _ => true) true n 3 [v0] = some y0 := by simpa [kI] using hg 0 _ rfl
    have g1 : DataW.trod enc Try.prog W 0 (fun _ => true) true n 3 [v1] = some y1 := by simpa [kI] using hg 1 _ rfl
    have g2 : DataW.trod enc Try.prog W 0 (fun _ => true) true n 3 [v2] = some y2 := by simpa [kI] using hg 2 _ rfl
    obtain ⟨a0, e0, _, _⟩ := DataW.trod_int Try.underlying3 g0
    obtain ⟨a1, e1, _, _⟩ := DataW.trod_int Try.underlying3 g1
    obtain ⟨a2, e2, _, _⟩ := DataW.trod_int Try.underlying3 g2
    simp at e0 e1 e2
    subst e0 e1 e2
    exact ⟨⟨a0, a1, a2⟩, rfl, trivial⟩
set_option maxRecDepth 100000 in
theorem el_step13 (fuel : Nat) (cs : List Value) (y : DataW H × List MemPlace) (hl : cs.length = 2) (h : DataW.trod enc Try.prog W 0 (fun _ => true) true fuel 75 cs = some y) : ∃ x : St3, cs = stC x ∧ True := by
  have kI : Try.prog.cellsOf 3 = 1 := by kernel_rfl
  have kB : Try.prog.cellsOf 4 = 1 := by kernel_rfl
  obtain ⟨xs, n, _, _, _, hxl, hg⟩ := DataW.trod_struct Try.underlying75 h
  match cs, hl, xs, hxl with
  | [v0, v1], _, [y0, y1], _ =>
    have g0 : DataW.trod enc Try.prog W 0 (fun _ => true) true n 3 [v0] = some y0 := by simpa [kI] using hg 0 _ rfl
    have g1 : DataW.trod enc Try.prog W 0 (fun _ => true) true n 4 [v1] = some y1 := by simpa [kB] using hg 1 _ rfl
    obtain ⟨a0, e0, _, _⟩ := DataW.trod_int Try.underlying3 g0
    obtain ⟨a1, e1, _⟩ := DataW.trod_bool Try.underlying4 g1
    simp at e0 e1
    subst e0 e1
    exact ⟨⟨a0, a1⟩, rfl, trivial⟩
set_option maxRecDepth 100000 in
theorem el_route13 (fuel : Nat) (cs : List Value) (y : DataW H × List MemPlace) (hl : cs.length = 4) (h : DataW.trod enc Try.prog W 0 (fun _ => true) true fuel 61 cs = some y) : ∃ x : Rt3 × Value, cs = rtC x ∧ (PathV W x.2 x.1.path ∧ CapV x.2) := by
  have kI : Try.prog.cellsOf 3 = 1 := by kernel_rfl
  have kS : Try.prog.cellsOf 59 = 1 := by kernel_rfl
  obtain ⟨xs, n, _, _, _, hxl, hg⟩ := DataW.trod_struct Try.underlying61 h
  match cs, hl, xs, hxl with
  | [v0, v1, v2, v3], _, [y0, y1, y2, y3], _ =>
    have g0 : DataW.trod enc Try.prog W 0 (fun _ => true) true n 3 [v0] = some y0 := by simpa [kI] using hg 0 _ rfl
    have g1 : DataW.trod enc Try.prog W 0 (fun _ => true) true n 59 [v1] = some y1 := by simpa [kS] using hg 1 _ rfl
    have g2 : DataW.trod enc Try.prog W 0 (fun _ => true) true n 3 [v2] = some y2 := by simpa [kI] using hg 2 _ rfl
    have g3 : DataW.trod enc Try.prog W 0 (fun _ => true) true n 3 [v3] = some y3 := by simpa [kI] using hg 3 _ rfl
    obtain ⟨a0, e0, _, _⟩ := DataW.trod_int Try.underlying3 g0
    obtain ⟨A, c, l, rfl, hs, hcap, _⟩ := slo_open13 (f := stC) (k := 2) (by decide) (fun _ => rfl) Try.underlying59 (by kernel_rfl) el_step13 g1
    obtain ⟨a2, e2, _, _⟩ := DataW.trod_int Try.underlying3 g2
    obtain ⟨a3, e3, _, _⟩ := DataW.trod_int Try.underlying3 g3
    simp at e0 e2 e3
    subst e0 e2 e3
    exact ⟨(⟨a0, l, a2, a3⟩, .slice A l.length c), rfl, ⟨A, c, rfl, hs⟩, fun A' n' c' e => by cases e; exact hcap⟩
end
set_option maxRecDepth 100000 in
theorem topo_open {H : Type} {enc : TypeId × Value → H} {W : World} {r : Reach} {b0 : Nat} {v : Value} {d : DataW H} {p : List MemPlace} (hv : Value.okWide Try.prog W r b0 27 v)
    (h : DataW.Trod enc Try.prog W 0 (fun _ => true) true 27 v d p) : ∃ (t : Tp3) (a : TpA), v = .agg (tpC t a) ∧ TopR W t a ∧ t.joints.length ≤ a.cj := by
  obtain ⟨v0, v1, v2, v3, y0, y1, y2, y3, n, rfl, _, _, h0, h1, h2, h3⟩ := open_agg4 Try.underlying27 (by kernel_rfl) (by kernel_rfl) hv h
  obtain ⟨A0, c0, l0, rfl, s0, _, _⟩ := slo_open13 (f := inC) (k := 1) (by decide) (fun _ => rfl) Try.underlying22 (by kernel_rfl) el_int13 h0
  obtain ⟨A1, c1, l1, rfl, s1, hc1, _⟩ := slo_open13 (f := jtC) (k := 4) (by decide) (fun _ => rfl) Try.underlying23 (by kernel_rfl) el_joint13 h1
  obtain ⟨A2, c2, l2, rfl, s2, _, _⟩ := slo_open13 (f := blC) (k := 3) (by decide) (fun _ => rfl) Try.underlying24 (by kernel_rfl) el_bal13 h2
  obtain ⟨A3, c3, l3, rfl, s3, _, hq⟩ := slo_open13 (f := rtC) (k := 4) (by decide) (fun _ => rfl) Try.underlying25 (by kernel_rfl) el_route13 h3
  have hln : (l3.map (·.1)).length = l3.length := by simp
  refine ⟨⟨l0, l1, l2, l3.map (·.1)⟩, ⟨A0, c0, A1, c1, A2, c2, A3, c3⟩, by unfold tpC; simp only [hln], ⟨s0, s1, s2, ?_⟩, hc1⟩
  show RtsR W A3 (l3.map (·.1)).length c3 (l3.map (·.1))
  rw [hln]
  exact ⟨l3, rfl, s3, hq⟩
set_option maxRecDepth 100000 in
theorem step_open {H : Type} {enc : TypeId × Value → H} {W : World} {r : Reach} {b0 : Nat} {v : Value} {d : DataW H} {p : List MemPlace} (hv : Value.okWide Try.prog W r b0 75 v)
    (h : DataW.Trod enc Try.prog W 0 (fun _ => true) true 75 v d p) : ∃ s : St3, v = .agg (stA13 s) := by
  obtain ⟨cs, rfl, hsz⟩ := okWide_struct Try.underlying75 hv
  have hC : Try.prog.cellsOf 75 = 2 := by kernel_rfl
  obtain ⟨fuel, hf⟩ := h
  obtain ⟨cl⟩ := cs
  obtain ⟨s, e, _⟩ := el_step13 fuel cl _ (hsz.trans hC) (by simpa [Value.cells] using hf)
  exact ⟨s, by rw [e]; rfl⟩
end Go.Proofs.Yteioefgckigbcaa
