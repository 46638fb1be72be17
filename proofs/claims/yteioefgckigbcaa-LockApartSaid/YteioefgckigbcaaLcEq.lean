/-
  lock: locks as cells, compared; how an interlocking lies.
-/
import Derived.Test.YteioefgckigbcaaSnEq

import Derived.Test.YteioefgckigbcaaLcPure

namespace Go.Proofs.Yteioefgckigbcaa

open Go.RowKit

open Go.Great

def lcA (s : Lc3) : Array Value := #[.int .i64 s.route, .int .i64 s.train, .int .i64 s.no]
def lcC (s : Lc3) : List Value := [.int .i64 s.route, .int .i64 s.train, .int .i64 s.no]
theorem plain_lc16 : Try.prog.eqGuardType Try.prog.depth 50 = false := by kernel_rfl
set_option maxRecDepth 100000 in
set_option maxHeartbeats 2000000 in
theorem eq_lc16 (a b : Lc3) (W : World) : (Op.equalIn 10000 50 (.agg (lcA a)) (.agg (lcA b))).run Try.prog W = .ok (eqK a b) W := by
  rw [show (10000 : Nat) = 9999 + 1 from rfl, run_equalIn_struct W 9999 50 _ _ (by kernel_rfl) (by kernel_rfl)]
  simp only [Program.fieldsOf, Try.underlying50]
  unfold eqK lcA
  by_cases h0 : a.route = b.route
  rotate_left
  · refine (run_eqNo13 W 9999 (lcA a) (lcA b) _ _ (.int .i64 a.route) (.int .i64 b.route) (by decide) (run_part1_11 W 3 (lcA a) 0 (.int .i64 a.route) (by kernel_rfl) rfl) (run_part1_11 W 3 (lcA b) 0 (.int .i64 b.route) (by kernel_rfl) rfl) (by rw [show (9999 : Nat) = 9998 + 1 from rfl, run_equalIn_int W 9998 3 .i64 .i64 _ _ Try.underlying3]; simp [h0])).trans ?_
    have e : (a.route == b.route) = false := by simp [h0]
    simp [e]
  refine (run_eqField11 W 9999 (lcA a) (lcA b) _ _ (.int .i64 a.route) (.int .i64 b.route) (by decide) (run_part1_11 W 3 (lcA a) 0 (.int .i64 a.route) (by kernel_rfl) rfl) (run_part1_11 W 3 (lcA b) 0 (.int .i64 b.route) (by kernel_rfl) rfl) (by rw [show (9999 : Nat) = 9998 + 1 from rfl, run_equalIn_int W 9998 3 .i64 .i64 _ _ Try.underlying3]; simp [h0])).trans ?_
  by_cases h1 : a.train = b.train
  rotate_left
  · refine (run_eqNo13 W 9999 (lcA a) (lcA b) _ _ (.int .i64 a.train) (.int .i64 b.train) (by decide) (run_part1_11 W 3 (lcA a) 1 (.int .i64 a.train) (by kernel_rfl) rfl) (run_part1_11 W 3 (lcA b) 1 (.int .i64 b.train) (by kernel_rfl) rfl) (by rw [show (9999 : Nat) = 9998 + 1 from rfl, run_equalIn_int W 9998 3 .i64 .i64 _ _ Try.underlying3]; simp [h1])).trans ?_
    have e : (a.train == b.train) = false := by simp [h1]
    simp [e]
  refine (run_eqField11 W 9999 (lcA a) (lcA b) _ _ (.int .i64 a.train) (.int .i64 b.train) (by decide) (run_part1_11 W 3 (lcA a) 1 (.int .i64 a.train) (by kernel_rfl) rfl) (run_part1_11 W 3 (lcA b) 1 (.int .i64 b.train) (by kernel_rfl) rfl) (by rw [show (9999 : Nat) = 9998 + 1 from rfl, run_equalIn_int W 9998 3 .i64 .i64 _ _ Try.underlying3]; simp [h1])).trans ?_
  by_cases h2 : a.no = b.no
  rotate_left
  · refine (run_eqNo13 W 9999 (lcA a) (lcA b) _ _ (.int .i64 a.no) (.int .i64 b.no) (by decide) (run_part1_11 W 3 (lcA a) 2 (.int .i64 a.no) (by kernel_rfl) rfl) (run_part1_11 W 3 (lcA b) 2 (.int .i64 b.no) (by kernel_rfl) rfl) (by rw [show (9999 : Nat) = 9998 + 1 from rfl, run_equalIn_int W 9998 3 .i64 .i64 _ _ Try.underlying3]; simp [h2])).trans ?_
    have e : (a.no == b.no) = false := by simp [h2]
    simp [e]
  refine (run_eqField11 W 9999 (lcA a) (lcA b) _ _ (.int .i64 a.no) (.int .i64 b.no) (by decide) (run_part1_11 W 3 (lcA a) 2 (.int .i64 a.no) (by kernel_rfl) rfl) (run_part1_11 W 3 (lcA b) 2 (.int .i64 b.no) (by kernel_rfl) rfl) (by rw [show (9999 : Nat) = 9998 + 1 from rfl, run_equalIn_int W 9998 3 .i64 .i64 _ _ Try.underlying3]; simp [h2])).trans ?_
  refine (run_eqDone11 W 9999 _ _).trans ?_
  simp [h0, h1, h2]
theorem eql_lc16 (a b : Lc3) (W : World) : (binOp .eql 50 (.agg (lcA a)) (.agg (lcA b))).run Try.prog W = .ok (.bool (eqK a b)) W := by
  rw [run_eql_struct, eq_lc16]; rfl
theorem neq_lc16 (a b : Lc3) (W : World) : (binOp .neq 50 (.agg (lcA a)) (.agg (lcA b))).run Try.prog W = .ok (.bool (!eqK a b)) W := by
  rw [run_neq_struct, eq_lc16]; rfl
theorem info_lock16 : (Try.prog.info? 50).map (fun i => (i.zero, i.size, i.bytes)) = some (some (.agg #[.int .i64 0, .int .i64 0, .int .i64 0]), 3, 24) := by kernel_rfl
theorem one_lc16 (s : Lc3) : ∀ u ∈ lcC s, u.oneCell' = true := by
  intro u hu
  simp only [lcC, List.mem_cons, List.not_mem_nil, or_false] at hu
  rcases hu with rfl | rfl | rfl <;> rfl
theorem SlO.lock {w : World} {A : Option Addr} {n c : Nat} {l : List Lc3} (h : SlO lcC 3 w A n c l) {j : Nat} {x : Lc3} (hx : l[j]? = some x) :
    ∃ b off, A = some ⟨b, off, none⟩ ∧ w.cell? ⟨b, off + j * 3, none⟩ = some (.int .i64 x.route) ∧ w.cell? ⟨b, off + j * 3 + 1, none⟩ = some (.int .i64 x.train) ∧ w.cell? ⟨b, off + j * 3 + 2, none⟩ = some (.int .i64 x.no) := by
  obtain ⟨b, off, e, hc⟩ := h.at_ (fun _ => rfl) (by decide) hx
  exact ⟨b, off, e, hc 0 _ rfl, hc 1 _ rfl, hc 2 _ rfl⟩
/-- Its cells, wherever the world has gone since. -/
theorem SlO.locks {w : World} {A : Option Addr} {n c : Nat} {l : List Lc3} (h : SlO lcC 3 w A n c l) {j : Nat} {x : Lc3} (hx : l[j]? = some x) :
    ∃ b off, A = some ⟨b, off, none⟩ ∧ ∀ W, Below w.heap.size w W → W.cell? ⟨b, off + j * 3, none⟩ = some (.int .i64 x.route) ∧ W.cell? ⟨b, off + j * 3 + 1, none⟩ = some (.int .i64 x.train) ∧ W.cell? ⟨b, off + j * 3 + 2, none⟩ = some (.int .i64 x.no) := by
  obtain ⟨b, off, rfl, _⟩ := h.lock hx
  refine ⟨b, off, rfl, fun W hW => ?_⟩
  obtain ⟨b', o', e, h1⟩ := (h.under hW).lock hx
  injection e with e
  injection e with e1 e2 _
  subst e1 e2
  exact h1
/-- A slice of locks whose block is one of locks. -/
def LkT (w : World) (A : Option Addr) (n c : Nat) (l : List Lc3) : Prop := SlO lcC 3 w A n c l ∧ n ≤ c ∧ ∀ ad, A = some ad → ∃ cs, Has w ad.block 50 cs
theorem LkT.under {w w' : World} {A : Option Addr} {n c : Nat} {l : List Lc3} (h : LkT w A n c l) (hb : Below w.heap.size w w') : LkT w' A n c l := ⟨h.1.under hb, h.2.1, fun ad e => by
  obtain ⟨cs, hc⟩ := h.2.2 ad e
  exact ⟨cs, hc.under hb hc.lt⟩⟩
theorem LkT.row {w : World} {A : Option Addr} {n c g : Nat} {l : List Lc3} {t : TypeId} {o : Array Value} (h : LkT w A n c l) (hg : Has w g t o) (hne : t ≠ 50) (cs : Array Value) : LkT (w.setRow g cs) A n c l := by
  have hn : ∀ ad, A = some ad → ad.block ≠ g := fun ad e hb => by
    obtain ⟨cs, hc⟩ := h.2.2 ad e
    rw [hb] at hc
    exact Has.other hg hc hne rfl
  refine ⟨⟨h.1.1, sl_row11 h.1.2 hn _⟩, h.2.1, fun ad e => ?_⟩
  obtain ⟨cs', hc⟩ := h.2.2 ad e
  exact ⟨cs', has_rowo11 hc (hn ad e) _⟩
theorem LkT.of_own {w : World} {base : Nat} {A : Option Addr} {n c : Nat} {l : List Lc3} (h : OwR lcC 3 50 base w A n c l) : LkT w A n c l := ⟨h.sl, h.cap, fun ad e => by
  subst e
  obtain ⟨g, cur, rfl, _, hh, _⟩ := h.has
  exact ⟨cur, hh⟩⟩
theorem LkT.none (w : World) : LkT w none 0 0 [] := ⟨SlO.nil _ _ _, Nat.le_refl _, fun ad e => by cases e⟩
/-! Extents are short. -/
theorem ov_len16 (t : Tp3) (fr tz : Int) (path : List St3) (at_ : Int) : (ovGo t fr tz path at_).length ≤ path.length := by
  induction path generalizing at_ with
  | nil => exact Nat.le_refl _
  | cons s r ih =>
    rw [ovGo, List.length_append, List.length_cons]
    have := ih (at_ + lenAt t s)
    have h1 : ∀ a b, (partN s (lenAt t s) a b).length ≤ 1 := fun a b => by
      unfold partN
      split <;> simp
    have := h1 (cutA fr at_) (cutB tz at_ (lenAt t s))
    omega
theorem over_few16 (t : Tp3) (path : List St3) (fr tz : Int) : (overE t path fr tz).1.length ≤ 2 * path.length := by
  unfold overE
  split
  · split
    · refine Nat.le_trans (form_few _ _ _) ?_
      have := ov_len16 t fr tz path 0
      simp
      omega
    · simp
  · simp
theorem route_mem16 {t : Tp3} {id : Int} {r : Rt3} (h : routeF t id = some r) : r ∈ t.routes := List.mem_of_find?_eq_some h
theorem ext_few {t : Tp3} (hl : lightT t = true) (route : Int) : (extL t route).length ≤ 200 := by
  unfold extL
  cases hq : routeF t route with
  | none => simp
  | some r =>
    have h1 := over_few16 t r.path 0 (sumT t r.path)
    have h2 := (light_nums13 hl).2.2.2.2 r (route_mem16 hq)
    dsimp only
    omega
theorem ext_at {t : Tp3} {route : Int} {r : Rt3} (h : routeF t route = some r) : extL t route = (overE t r.path 0 (sumT t r.path)).1 := by
  unfold extL
  rw [h]
theorem ext_no {t : Tp3} {route : Int} (h : routeF t route = none) : extL t route = [] := by
  unfold extL
  rw [h]
theorem over_n16 {t : Tp3} {path : List St3} {N : Int} (h0 : lenE t path = 0) (h : edgesOk t = true → N = lenN t path) : (overE t path 0 N).1 = (overE t path 0 (sumT t path)).1 := by
  cases hq : edgesOk t with
  | true =>
    rw [h hq]
    unfold lenN
    rw [if_pos h0]
  | false =>
    have : ∀ M, (overE t path 0 M).1 = [] := fun M => by
      unfold overE
      rw [if_pos h0, if_neg (by rw [hq]; rintro ⟨h3, _⟩; cases h3)]
    rw [this, this]
theorem over_bad16 {t : Tp3} {path : List St3} {fr tz : Int} (h0 : lenE t path ≠ 0) : (overE t path fr tz).1 = [] := by
  unfold overE
  rw [if_neg h0]
/-- On a track that may be, an extent is at most sixteen spans. -/
theorem ext_few8 {t : Tp3} (hc : checkE t = 0) (route : Int) : (extL t route).length ≤ 16 := by
  cases hq : routeF t route with
  | none => rw [ext_no hq]; simp
  | some r =>
    rw [ext_at hq]
    have h1 := over_few16 t r.path 0 (sumT t r.path)
    obtain ⟨i, hi, rfl⟩ := List.getElem_of_mem (route_mem16 hq)
    have h2 := (check_routes hc).2.2 i hi
    have h3 : routeE t (t.routes[i]) = 0 := by
      unfold routeAt at h2
      rw [List.getElem?_eq_getElem hi] at h2
      dsimp only at h2
      by_cases hz : routeE t (t.routes[i]) = 0
      · exact hz
      · rw [if_neg hz] at h2
        exact absurd h2 hz
    have h4 := (route_ok h3).2.2.1
    omega
end Go.Proofs.Yteioefgckigbcaa
