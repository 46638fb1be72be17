/-
  topo: how a track lies in memory.
-/
import Derived.Test.YteioefgckigbcaaTpPure

namespace Go.Proofs.Yteioefgckigbcaa

open Go.RowKit

theorem flat_len {α : Type} {f : α → List Value} {k : Nat} (hf : ∀ x, (f x).length = k) (l : List α) : (l.flatMap f).length = l.length * k := by
  induction l with
  | nil => simp
  | cons x r ih => rw [List.flatMap_cons, List.length_append, hf, ih, List.length_cons, Nat.succ_mul, Nat.add_comm]
theorem flat_at {α : Type} {f : α → List Value} {k : Nat} (hf : ∀ x, (f x).length = k) {l : List α} {j : Nat} {x : α} (hx : l[j]? = some x) {i : Nat} (hi : i < k) : (l.flatMap f)[j * k + i]? = (f x)[i]? := by
  induction l generalizing j with
  | nil => simp at hx
  | cons y r ih =>
    rw [List.flatMap_cons]
    cases j with
    | zero =>
      simp at hx
      subst hx
      rw [List.getElem?_append_left (by rw [hf]; omega)]
      simp
    | succ m =>
      have e : (m + 1) * k = m * k + k := Nat.succ_mul m k
      rw [List.getElem?_append_right (by rw [hf]; omega), hf, show (m + 1) * k + i - k = m * k + i by omega]
      exact ih (by simpa using hx)
/-- A slice value of n elements, each of k cells, as f says. -/
def SlO {α : Type} (f : α → List Value) (k : Nat) (w : World) (A : Option Addr) (n c : Nat) (l : List α) : Prop := l.length = n ∧ Sl w k A n c (l.flatMap f)
theorem SlO.under {α : Type} {f : α → List Value} {k : Nat} {w w' : World} {A : Option Addr} {n c : Nat} {l : List α} (h : SlO f k w A n c l) (hb : Below w.heap.size w w') : SlO f k w' A n c l := ⟨h.1, h.2.under hb⟩
theorem SlO.at_ {α : Type} {f : α → List Value} {k : Nat} {w : World} {A : Option Addr} {n c : Nat} {l : List α} (h : SlO f k w A n c l) (hf : ∀ x, (f x).length = k) (hk : 0 < k) {j : Nat} {x : α} (hx : l[j]? = some x) :
    ∃ b off, A = some ⟨b, off, none⟩ ∧ ∀ i u, (f x)[i]? = some u → w.cell? ⟨b, off + j * k + i, none⟩ = some u := by
  obtain ⟨u0, hu0⟩ : ∃ u, (f x)[0]? = some u := ⟨_, List.getElem?_eq_getElem (by rw [hf]; exact hk)⟩
  obtain ⟨b, off, e, _⟩ := h.2.at_ (j := j * k + 0) (u := u0) (by rw [flat_at hf hx hk]; exact hu0)
  refine ⟨b, off, e, fun i u hu => ?_⟩
  have hi : i < k := by rw [← hf x]; exact (List.getElem?_eq_some_iff.1 hu).1
  obtain ⟨b', off', e', hc⟩ := h.2.at_ (j := j * k + i) (u := u) (by rw [flat_at hf hx hi]; exact hu)
  rw [e] at e'
  injection e' with e'
  injection e' with e1 e2 _
  subst e1 e2
  rw [Nat.add_assoc]
  exact hc
theorem SlO.nil {α : Type} (f : α → List Value) (k : Nat) (w : World) : SlO f k w none 0 0 [] := ⟨rfl, sl_nil _ _⟩

def inC (x : Int) : List Value := [.int .i64 x]
def stC (s : St3) : List Value := [.int .i64 s.edge, .bool s.rev]
def jtC (j : Jt3) : List Value := [.int .i64 j.a.1, .int .i64 j.a.2, .int .i64 j.b.1, .int .i64 j.b.2]
def blC (b : Bl3) : List Value := [.int .i64 b.id, .int .i64 b.edge, .int .i64 b.at_]
def rtC (p : Rt3 × Value) : List Value := [.int .i64 p.1.id, p.2, .int .i64 p.1.gap, .int .i64 p.1.timer]
/-- A value that is a path. -/
def PathV (w : World) (v : Value) (path : List St3) : Prop := ∃ A c, v = .slice A path.length c ∧ SlO stC 2 w A path.length c path
theorem PathV.under {w w' : World} {v : Value} {path : List St3} (h : PathV w v path) (hb : Below w.heap.size w w') : PathV w' v path := by
  obtain ⟨A, c, e, hs⟩ := h
  exact ⟨A, c, e, hs.under hb⟩
/-- A slice value has room for what it has. -/
def CapV (v : Value) : Prop := ∀ A n c, v = .slice A n c → n ≤ c
/-- A slice of routes. -/
def RtsR (w : World) (A : Option Addr) (n c : Nat) (rs : List Rt3) : Prop := ∃ l : List (Rt3 × Value), l.map (·.1) = rs ∧ SlO rtC 4 w A n c l ∧ ∀ p ∈ l, PathV w p.2 p.1.path ∧ CapV p.2
theorem RtsR.under {w w' : World} {A : Option Addr} {n c : Nat} {rs : List Rt3} (h : RtsR w A n c rs) (hb : Below w.heap.size w w') : RtsR w' A n c rs := by
  obtain ⟨l, h1, h2, h3⟩ := h
  exact ⟨l, h1, h2.under hb, fun p hp => ⟨(h3 p hp).1.under hb, (h3 p hp).2⟩⟩
theorem RtsR.cap_at {w : World} {A : Option Addr} {n c : Nat} {rs : List Rt3} (h : RtsR w A n c rs) {j : Nat} {r : Rt3} (hr : rs[j]? = some r) :
    ∃ b off PA pc, A = some ⟨b, off, none⟩ ∧ SlO stC 2 w PA r.path.length pc r.path ∧ w.cell? ⟨b, off + j * 4, none⟩ = some (.int .i64 r.id) ∧ w.cell? ⟨b, off + j * 4 + 1, none⟩ = some (.slice PA r.path.length pc) ∧ w.cell? ⟨b, off + j * 4 + 2, none⟩ = some (.int .i64 r.gap) ∧ w.cell? ⟨b, off + j * 4 + 3, none⟩ = some (.int .i64 r.timer) ∧ r.path.length ≤ pc := by
  obtain ⟨l, rfl, h2, h3⟩ := h
  rw [List.getElem?_map] at hr
  obtain ⟨p, hp, rfl⟩ := Option.map_eq_some_iff.1 hr
  obtain ⟨b, off, e, hc⟩ := h2.at_ (fun _ => rfl) (by decide) hp
  obtain ⟨⟨PA, pc, ev, hs⟩, hcv⟩ := h3 p (List.mem_of_getElem? hp)
  have hcap := hcv _ _ _ ev
  have h1 := hc 1 p.2 rfl
  rw [ev] at h1
  exact ⟨b, off, PA, pc, e, hs, hc 0 _ rfl, h1, hc 2 _ rfl, hc 3 _ rfl, hcap⟩
theorem RtsR.at_ {w : World} {A : Option Addr} {n c : Nat} {rs : List Rt3} (h : RtsR w A n c rs) {j : Nat} {r : Rt3} (hr : rs[j]? = some r) :
    ∃ b off PA pc, A = some ⟨b, off, none⟩ ∧ SlO stC 2 w PA r.path.length pc r.path ∧ w.cell? ⟨b, off + j * 4, none⟩ = some (.int .i64 r.id) ∧ w.cell? ⟨b, off + j * 4 + 1, none⟩ = some (.slice PA r.path.length pc) ∧ w.cell? ⟨b, off + j * 4 + 2, none⟩ = some (.int .i64 r.gap) ∧ w.cell? ⟨b, off + j * 4 + 3, none⟩ = some (.int .i64 r.timer) := by
  obtain ⟨b, off, PA, pc, h1, h2, h3, h4, h5, h6, _⟩ := h.cap_at hr
  exact ⟨b, off, PA, pc, h1, h2, h3, h4, h5, h6⟩
/-- Where a track's slices lie. -/
structure TpA where
  ae : Option Addr
  ce : Nat
  aj : Option Addr
  cj : Nat
  ab : Option Addr
  cb : Nat
  ar : Option Addr
  cr : Nat
def tpC (t : Tp3) (a : TpA) : Array Value := #[.slice a.ae t.edges.length a.ce, .slice a.aj t.joints.length a.cj, .slice a.ab t.bals.length a.cb, .slice a.ar t.routes.length a.cr]
structure TopR (w : World) (t : Tp3) (a : TpA) : Prop where
  e : SlO inC 1 w a.ae t.edges.length a.ce t.edges
  j : SlO jtC 4 w a.aj t.joints.length a.cj t.joints
  b : SlO blC 3 w a.ab t.bals.length a.cb t.bals
  r : RtsR w a.ar t.routes.length a.cr t.routes
theorem TopR.under {w w' : World} {t : Tp3} {a : TpA} (h : TopR w t a) (hb : Below w.heap.size w w') : TopR w' t a := ⟨h.e.under hb, h.j.under hb, h.b.under hb, h.r.under hb⟩
theorem light_nums13 {t : Tp3} (h : lightT t = true) : t.edges.length ≤ 100 ∧ t.joints.length ≤ 100 ∧ t.bals.length ≤ 100 ∧ t.routes.length ≤ 100 ∧ ∀ r ∈ t.routes, r.path.length ≤ 100 := by
  unfold lightT at h
  simp only [Bool.and_eq_true, decide_eq_true_eq, List.all_eq_true] at h
  exact h
theorem SlO.edge {w : World} {A : Option Addr} {n c : Nat} {l : List Int} (h : SlO inC 1 w A n c l) {j : Nat} (hj : j < n) : ∃ b off, A = some ⟨b, off, none⟩ ∧ w.cell? ⟨b, off + j, none⟩ = some (.int .i64 (l.getD j 0)) := by
  have hl : j < l.length := by rw [h.1]; exact hj
  obtain ⟨b, off, e, hc⟩ := h.at_ (fun _ => rfl) (by decide) (List.getElem?_eq_getElem hl)
  refine ⟨b, off, e, ?_⟩
  rw [List.getD_eq_getElem?_getD, List.getElem?_eq_getElem hl]
  have := hc 0 _ rfl
  simpa using this
theorem SlO.joint {w : World} {A : Option Addr} {n c : Nat} {l : List Jt3} (h : SlO jtC 4 w A n c l) {j : Nat} {x : Jt3} (hx : l[j]? = some x) :
    ∃ b off, A = some ⟨b, off, none⟩ ∧ w.cell? ⟨b, off + j * 4, none⟩ = some (.int .i64 x.a.1) ∧ w.cell? ⟨b, off + j * 4 + 1, none⟩ = some (.int .i64 x.a.2) ∧ w.cell? ⟨b, off + j * 4 + 2, none⟩ = some (.int .i64 x.b.1) ∧ w.cell? ⟨b, off + j * 4 + 3, none⟩ = some (.int .i64 x.b.2) := by
  obtain ⟨b, off, e, hc⟩ := h.at_ (fun _ => rfl) (by decide) hx
  exact ⟨b, off, e, hc 0 _ rfl, hc 1 _ rfl, hc 2 _ rfl, hc 3 _ rfl⟩
theorem SlO.bal {w : World} {A : Option Addr} {n c : Nat} {l : List Bl3} (h : SlO blC 3 w A n c l) {j : Nat} {x : Bl3} (hx : l[j]? = some x) :
    ∃ b off, A = some ⟨b, off, none⟩ ∧ w.cell? ⟨b, off + j * 3, none⟩ = some (.int .i64 x.id) ∧ w.cell? ⟨b, off + j * 3 + 1, none⟩ = some (.int .i64 x.edge) ∧ w.cell? ⟨b, off + j * 3 + 2, none⟩ = some (.int .i64 x.at_) := by
  obtain ⟨b, off, e, hc⟩ := h.at_ (fun _ => rfl) (by decide) hx
  exact ⟨b, off, e, hc 0 _ rfl, hc 1 _ rfl, hc 2 _ rfl⟩
theorem SlO.step {w : World} {A : Option Addr} {n c : Nat} {l : List St3} (h : SlO stC 2 w A n c l) {j : Nat} {x : St3} (hx : l[j]? = some x) :
    ∃ b off, A = some ⟨b, off, none⟩ ∧ w.cell? ⟨b, off + j * 2, none⟩ = some (.int .i64 x.edge) ∧ w.cell? ⟨b, off + j * 2 + 1, none⟩ = some (.bool x.rev) := by
  obtain ⟨b, off, e, hc⟩ := h.at_ (fun _ => rfl) (by decide) hx
  exact ⟨b, off, e, hc 0 _ rfl, hc 1 _ rfl⟩
end Go.Proofs.Yteioefgckigbcaa
