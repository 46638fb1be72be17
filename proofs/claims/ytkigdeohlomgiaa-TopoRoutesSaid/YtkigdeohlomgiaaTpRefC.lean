/-
  linesideref13, by contract: Bal, Route, Steps, SameRoute, Light.
-/
import Derived.Test.YtkigdeohlomgiaaTpRefB

import Derived.BigQuiet

import Derived.IntWalk

namespace Go.Proofs.Ytkigdeohlomgiaa

open Go.RowKit

open Go.Great

theorem find_at13 {α : Type} {p : α → Bool} {l : List α} {i : Nat} {x : α} (hx : l[i]? = some x) (hp : p x = true) (hno : ∀ m y, m < i → l[m]? = some y → p y = false) : l.find? p = some x := by
  induction l generalizing i with
  | nil => simp at hx
  | cons a r ih =>
    cases i with
    | zero =>
      simp at hx
      subst hx
      exact List.find?_cons_of_pos hp
    | succ k =>
      rw [List.find?_cons_of_neg (by rw [hno 0 a (by omega) rfl]; decide)]
      exact ih (i := k) (by simpa using hx) fun m y hm hy => hno (m + 1) y (by omega) (by simpa using hy)
theorem find_none13 {α : Type} {p : α → Bool} {l : List α} (hno : ∀ m y, m < l.length → l[m]? = some y → p y = false) : l.find? p = none := by
  rw [List.find?_eq_none]
  intro y hy
  obtain ⟨m, hm, rfl⟩ := List.getElem_of_mem hy
  rw [hno m _ hm (List.getElem?_eq_getElem hm)]
  decide
instance : DecidableEq St3 := fun a b => decidable_of_iff (eqS a b = true) (eqS_iff a b)
theorem RtsR.at2 {w w' : World} {A : Option Addr} {n c : Nat} {rs : List Rt3} (h : RtsR w A n c rs) (hb : Below w.heap.size w w') {j : Nat} {r : Rt3} (hr : rs[j]? = some r) :
    ∃ b off PA pc, A = some ⟨b, off, none⟩ ∧ SlO stC 2 w PA r.path.length pc r.path ∧ w'.cell? ⟨b, off + j * 4, none⟩ = some (.int .i64 r.id) ∧ w'.cell? ⟨b, off + j * 4 + 1, none⟩ = some (.slice PA r.path.length pc) ∧ w'.cell? ⟨b, off + j * 4 + 2, none⟩ = some (.int .i64 r.gap) ∧ w'.cell? ⟨b, off + j * 4 + 3, none⟩ = some (.int .i64 r.timer) := by
  obtain ⟨l, rfl, h2, h3⟩ := h
  rw [List.getElem?_map] at hr
  obtain ⟨p, hp, rfl⟩ := Option.map_eq_some_iff.1 hr
  obtain ⟨b, off, e, hc⟩ := (h2.under hb).at_ (fun _ => rfl) (by decide) hp
  obtain ⟨⟨PA, pc, ev, hs⟩, _⟩ := h3 p (List.mem_of_getElem? hp)
  have h1 := hc 1 p.2 rfl
  rw [ev] at h1
  exact ⟨b, off, PA, pc, e, hs, hc 0 _ rfl, h1, hc 2 _ rfl, hc 3 _ rfl⟩
def rtA (r : Rt3) (v : Value) : Array Value := #[.int .i64 r.id, v, .int .i64 r.gap, .int .i64 r.timer]
def balR (t : Tp3) (id : Int) : Bl3 := (balF t id).getD ⟨0, 0, 0⟩
def routeR (t : Tp3) (id : Int) : Rt3 := (routeF t id).getD ⟨0, [], 0, 0⟩
def sameR (a b : Rt3) : Bool := decide (a.path = b.path) && ((a.id == b.id) && ((a.gap == b.gap) && (a.timer == b.timer)))
theorem sameR_iff (a b : Rt3) : sameR a b = true ↔ a = b := by
  obtain ⟨a1, a2, a3, a4⟩ := a
  obtain ⟨b1, b2, b3, b4⟩ := b
  unfold sameR
  simp
  constructor
  · rintro ⟨h1, h2, h3, h4⟩
    exact ⟨h2, h1, h3, h4⟩
  · rintro ⟨h1, h2, h3, h4⟩
    exact ⟨h2, h1, h3, h4⟩

set_option maxRecDepth 100000 in
set_option maxHeartbeats 8000000 in
theorem rbal_any (t : Tp3) (a : TpA) (id : Int) (w : World) (ht : TopR w t a) (hn : t.bals.length ≤ 1048576) :
    Calls Try.prog 10 #[.agg (tpC t a), .int .i64 id] w fun e w' => e = .returned (.tuple #[.agg (blA (balR t id)), .bool (balF t id).isSome]) ∧ Below w.heap.size w w' := by
  obtain ⟨wa, hwa⟩ : ∃ wa, (w.alloc (.cells (tpC t a) 27)).alloc (.cells #[.int .i64 0, .int .i64 0, .int .i64 0] 31) = wa := ⟨_, rfl⟩
  have hbwa : Below w.heap.size w wa := by rw [← hwa]; exact ((Below.refl _ _).alloc (Nat.le_refl _) _).alloc (by simp) _
  have h0 : Has wa (w.heap.size) 27 (tpC t a) := by rw [← hwa]; exact ((Has.made _ _ _).beside _)
  have h1 : Has wa (w.heap.size + 1) 31 #[.int .i64 0, .int .i64 0, .int .i64 0] := by rw [← hwa]; exact (has_at11 (by simp))
  have HWA := Lib.hid hwa; have HBWA := Lib.hid hbwa
  have HS := Lib.hid (ht.under hbwa).b
  have HZ := Lib.hid h1
  have c2 : wa.cell? ⟨w.heap.size, 2, none⟩ = some (.slice a.ab t.bals.length a.cb) := h0.cell 2
  clear hwa hbwa h0 h1 ht
  obtain ⟨n, hnn⟩ : ∃ n, t.bals.length = n := ⟨_, rfl⟩
  have HN := Lib.hid hnn
  rw [hnn] at hn c2
  clear hnn
  go_enter Try.func10, Try.ntmps10
  go_upto_region 1 with fail
  rw [HWA.out]
  clear HWA
  go_wp2
  go_loopg [6] n (fun kk v wl => ∃ i : Nat, i ≤ n ∧ n - i ≤ kk ∧ v = .int .i64 i ∧ Hid (∀ m y, m < i → t.bals[m]? = some y → (y.id == id) = false) ∧ wl = wa)
  case atStart => exact ⟨0, by omega, by omega, rfl, Lib.hid fun m y h => absurd h (by omega), rfl⟩
  case round =>
    obtain ⟨i, hi, hik, rfl, HNO, rfl⟩ := hrel
    by_cases hlt : i < n
    rotate_left
    · have x1 : ¬ (i : Int) < n := by omega
      have HF := Lib.hid (show balF t id = none from find_none13 fun m y hm hy => HNO.out m y (by have := HN.out; omega) hy)
      have HR := Lib.hid (has_row11 HZ.out #[.int .i64 0, .int .i64 0, .int .i64 0])
      have HBF := Lib.hid (below_row (g := w.heap.size + 1) HBWA.out (by omega) #[.int .i64 0, .int .i64 0, .int .i64 0])
      go_wp2_with (with_reducible refine wpList_store_rowTo (o := ⟨none, _, _, _, _, _⟩) rfl 31 _ _ rfl rfl (w.heap.size + 1) #[.int .i64 0, .int .i64 0, .int .i64 0] rfl rfl 31 _ (HZ.out).raw11 (by kernel_rfl) (by kernel_rfl) (by kernel_rfl) ?_)
      refine bodyPost_ret (results_row_tmp11 rfl _ _ (w.heap.size + 1) 31 _ _ rfl HR.out Try.underlying31 rfl (by kernel_rfl)) rfl ?_
      have e1_ : balR t id = ⟨0, 0, 0⟩ := by unfold balR; rw [HF.out]; rfl
      have e2_ : (balF t id).isSome = false := by rw [HF.out]; rfl
      rw [e1_, e2_]
      exact ⟨rfl, HBF.out⟩
    obtain ⟨x, hx⟩ : ∃ x, t.bals[i]? = some x := ⟨_, List.getElem?_eq_getElem (by rw [HN.out]; omega)⟩
    have HX := Lib.hid hx
    obtain ⟨bk, off, hab, d0, d1, d2⟩ := HS.out.bal hx
    rw [hab] at c2
    have y0 : (0 : Int) ≤ i := by omega
    have y1 : (i : Int) < n := by omega
    obtain ⟨u, hu⟩ : ∃ u, x.id = u := ⟨_, rfl⟩
    have HU := Lib.hid hu
    rw [hu] at d0
    clear hx hu
    by_cases hui : u = id
    · subst hui
      have HF := Lib.hid (show balF t u = some x from find_at13 HX.out (by show (x.id == u) = true; rw [HU.out]; simp) HNO.out)
      have HR := Lib.hid (has_row11 HZ.out #[.int .i64 u, .int .i64 x.edge, .int .i64 x.at_])
      have HBF := Lib.hid (below_row (g := w.heap.size + 1) HBWA.out (by omega) #[.int .i64 u, .int .i64 x.edge, .int .i64 x.at_])
      go_wp2_with (with_reducible refine wpList_store_rowTo (o := ⟨none, _, _, _, _, _⟩) rfl 31 _ _ rfl rfl (w.heap.size + 1) #[.int .i64 u, .int .i64 x.edge, .int .i64 x.at_] rfl rfl 31 _ (HZ.out).raw11 (by kernel_rfl) (by kernel_rfl) (by kernel_rfl) ?_)
      refine bodyPost_ret (results_row_tmp11 rfl _ _ (w.heap.size + 1) 31 _ _ rfl HR.out Try.underlying31 rfl (by kernel_rfl)) rfl ?_
      have e1_ : balR t u = x := by unfold balR; rw [HF.out]; rfl
      have e2_ : (balF t u).isSome = true := by rw [HF.out]; rfl
      rw [e1_, e2_]
      unfold blA
      rw [HU.out]
      exact ⟨rfl, HBF.out⟩
    have e1 : (u == id) = false := by simp [hui]
    go_wp2
    go_roundg (gk - 1)
    case measure => omega
    case rel =>
      refine ⟨i + 1, by omega, by omega, by go_num, Lib.hid (fun m y hm hy => ?_), rfl⟩
      by_cases hmi : m = i
      · subst hmi
        rw [HX.out] at hy
        injection hy with hy
        rw [← hy, HU.out]
        exact e1
      · exact HNO.out m y (by omega) hy

set_option maxRecDepth 100000 in
set_option maxHeartbeats 8000000 in
theorem rroute_any (t : Tp3) (a : TpA) (id : Int) (w : World) (ht : TopR w t a) (hn : t.routes.length ≤ 1048576) :
    Calls Try.prog 12 #[.agg (tpC t a), .int .i64 id] w fun e w' => ∃ v, PathV w' v (routeR t id).path ∧ e = .returned (.tuple #[.agg (rtA (routeR t id) v), .bool (routeF t id).isSome]) ∧ Below w.heap.size w w' := by
  obtain ⟨wa, hwa⟩ : ∃ wa, (w.alloc (.cells (tpC t a) 27)).alloc (.cells #[.int .i64 0, .slice none 0 0, .int .i64 0, .int .i64 0] 36) = wa := ⟨_, rfl⟩
  have hbwa : Below w.heap.size w wa := by rw [← hwa]; exact ((Below.refl _ _).alloc (Nat.le_refl _) _).alloc (by simp) _
  have h0 : Has wa (w.heap.size) 27 (tpC t a) := by rw [← hwa]; exact ((Has.made _ _ _).beside _)
  have h1 : Has wa (w.heap.size + 1) 36 #[.int .i64 0, .slice none 0 0, .int .i64 0, .int .i64 0] := by rw [← hwa]; exact (has_at11 (by simp))
  have HWA := Lib.hid hwa; have HBWA := Lib.hid hbwa
  have HS := Lib.hid ht.r
  have HZ := Lib.hid h1
  have c2 : wa.cell? ⟨w.heap.size, 3, none⟩ = some (.slice a.ar t.routes.length a.cr) := h0.cell 3
  clear hwa hbwa h0 h1 ht
  obtain ⟨n, hnn⟩ : ∃ n, t.routes.length = n := ⟨_, rfl⟩
  have HN := Lib.hid hnn
  rw [hnn] at hn c2
  clear hnn
  go_enter Try.func12, Try.ntmps12
  go_upto_region 1 with fail
  rw [HWA.out]
  clear HWA
  go_wp2
  go_loopg [6] n (fun kk v wl => ∃ i : Nat, i ≤ n ∧ n - i ≤ kk ∧ v = .int .i64 i ∧ Hid (∀ m y, m < i → t.routes[m]? = some y → (y.id == id) = false) ∧ wl = wa)
  case atStart => exact ⟨0, by omega, by omega, rfl, Lib.hid fun m y h => absurd h (by omega), rfl⟩
  case round =>
    obtain ⟨i, hi, hik, rfl, HNO, rfl⟩ := hrel
    by_cases hlt : i < n
    rotate_left
    · have x1 : ¬ (i : Int) < n := by omega
      have HF := Lib.hid (show routeF t id = none from find_none13 fun m y hm hy => HNO.out m y (by have := HN.out; omega) hy)
      have HR := Lib.hid (has_row11 HZ.out #[.int .i64 0, .slice none 0 0, .int .i64 0, .int .i64 0])
      have HBF := Lib.hid (below_row (g := w.heap.size + 1) HBWA.out (by omega) #[.int .i64 0, .slice none 0 0, .int .i64 0, .int .i64 0])
      go_wp2_with (with_reducible refine wpList_store_rowTo (o := ⟨none, _, _, _, _, _⟩) rfl 36 _ _ rfl rfl (w.heap.size + 1) #[.int .i64 0, .slice none 0 0, .int .i64 0, .int .i64 0] rfl rfl 36 _ (HZ.out).raw11 (by kernel_rfl) (by kernel_rfl) (by kernel_rfl) ?_)
      refine bodyPost_ret (results_row_tmp11 rfl _ _ (w.heap.size + 1) 36 _ _ rfl HR.out Try.underlying36 rfl (by kernel_rfl)) rfl ?_
      have e1_ : routeR t id = ⟨0, [], 0, 0⟩ := by unfold routeR; rw [HF.out]; rfl
      have e2_ : (routeF t id).isSome = false := by rw [HF.out]; rfl
      rw [e1_, e2_]
      exact ⟨.slice none 0 0, ⟨none, 0, rfl, SlO.nil _ _ _⟩, rfl, HBF.out⟩
    obtain ⟨x, hx⟩ : ∃ x, t.routes[i]? = some x := ⟨_, List.getElem?_eq_getElem (by rw [HN.out]; omega)⟩
    have HX := Lib.hid hx
    obtain ⟨bk, off, PA, pc, hab, hpa, d0, d1, d2, d3⟩ := HS.out.at2 HBWA.out hx
    have HPA := Lib.hid hpa
    clear hpa
    rw [hab] at c2
    have y0 : (0 : Int) ≤ i := by omega
    have y1 : (i : Int) < n := by omega
    obtain ⟨u, hu⟩ : ∃ u, x.id = u := ⟨_, rfl⟩
    have HU := Lib.hid hu
    rw [hu] at d0
    clear hx hu
    by_cases hui : u = id
    · subst hui
      have HF := Lib.hid (show routeF t u = some x from find_at13 HX.out (by show (x.id == u) = true; rw [HU.out]; simp) HNO.out)
      have HR := Lib.hid (has_row11 HZ.out #[.int .i64 u, .slice PA x.path.length pc, .int .i64 x.gap, .int .i64 x.timer])
      have HBF := Lib.hid (below_row (g := w.heap.size + 1) HBWA.out (by omega) #[.int .i64 u, .slice PA x.path.length pc, .int .i64 x.gap, .int .i64 x.timer])
      go_wp2_with (with_reducible refine wpList_store_rowTo (o := ⟨none, _, _, _, _, _⟩) rfl 36 _ _ rfl rfl (w.heap.size + 1) #[.int .i64 u, .slice PA x.path.length pc, .int .i64 x.gap, .int .i64 x.timer] rfl rfl 36 _ (HZ.out).raw11 (by kernel_rfl) (by kernel_rfl) (by kernel_rfl) ?_)
      refine bodyPost_ret (results_row_tmp11 rfl _ _ (w.heap.size + 1) 36 _ _ rfl HR.out Try.underlying36 rfl (by kernel_rfl)) rfl ?_
      have e1_ : routeR t u = x := by unfold routeR; rw [HF.out]; rfl
      have e2_ : (routeF t u).isSome = true := by rw [HF.out]; rfl
      rw [e1_, e2_]
      unfold rtA
      rw [HU.out]
      exact ⟨.slice PA x.path.length pc, ⟨PA, pc, rfl, HPA.out.under HBF.out⟩, rfl, HBF.out⟩
    have e1 : (u == id) = false := by simp [hui]
    go_wp2
    go_roundg (gk - 1)
    case measure => omega
    case rel =>
      refine ⟨i + 1, by omega, by omega, by go_num, Lib.hid (fun m y hm hy => ?_), rfl⟩
      by_cases hmi : m = i
      · subst hmi
        rw [HX.out] at hy
        injection hy with hy
        rw [← hy, HU.out]
        exact e1
      · exact HNO.out m y (by omega) hy

set_option maxRecDepth 100000 in
set_option maxHeartbeats 8000000 in
theorem rsteps_any (A B : Option Addr) (n c m d : Nat) (la lb : List St3) (w : World) (ha : SlO stC 2 w A n c la) (hb : SlO stC 2 w B m d lb) (hn : n ≤ 1048576) :
    Calls Try.prog 23 #[.slice A n c, .slice B m d] w fun e w' => e = .returned (.bool (decide (la = lb))) ∧ Below w.heap.size w w' := by
  have HA := Lib.hid ha
  have HB := Lib.hid hb
  clear ha hb
  obtain ⟨q, hq⟩ : ∃ q, decide (la = lb) = q := ⟨_, rfl⟩
  have HQ := Lib.hid hq
  rw [hq]
  clear hq
  by_cases hnm : n = m
  rotate_left
  · have hqf : q = false := by
      rw [← HQ.out]
      refine decide_eq_false fun h => hnm ?_
      rw [← HA.out.1, ← HB.out.1, h]
    have e1 : ((n : Int) == (m : Int)) = false := by simp; omega
    have e2 : ((n : Int) != (m : Int)) = true := by simp; omega
    go_enter Try.func23, Try.ntmps23
    go_wp2
    go_ret
    exact ⟨by first | rfl | (rw [hqf]; rfl) | rw [hqf], Below.refl _ _⟩
  subst hnm
  have HBA := Lib.hid (Below.refl w.heap.size w)
  go_enter Try.func23, Try.ntmps23
  go_wp2
  go_loopg [5] n (fun kk v wl => ∃ i k : Nat, i ≤ n ∧ n - i ≤ kk ∧ v = .int .i64 i ∧ Hid (∀ j, j < i → la[j]? = lb[j]?) ∧ wl = w.drewN k)
  case atStart => exact ⟨0, 0, by omega, by omega, rfl, Lib.hid fun j h => absurd h (by omega), rfl⟩
  case round =>
    obtain ⟨i, k, hi, hik, rfl, HEQ, rfl⟩ := hrel
    by_cases hlt : i < n
    rotate_left
    · have hqf : q = true := by
        rw [← HQ.out]
        refine decide_eq_true (List.ext_getElem? fun j => ?_)
        by_cases hj : j < i
        · exact HEQ.out j hj
        · rw [List.getElem?_eq_none (by rw [HA.out.1]; omega), List.getElem?_eq_none (by rw [HB.out.1]; omega)]
      have x1 : ¬ (i : Int) < n := by omega
      go_wp2
      go_ret
      exact ⟨by first | rfl | (rw [hqf]; rfl) | rw [hqf], below_draws (Below.refl _ _) k⟩
    obtain ⟨x, hx⟩ : ∃ x, la[i]? = some x := ⟨_, List.getElem?_eq_getElem (by rw [HA.out.1]; omega)⟩
    obtain ⟨y, hy⟩ : ∃ y, lb[i]? = some y := ⟨_, List.getElem?_eq_getElem (by rw [HB.out.1]; omega)⟩
    have HX := Lib.hid hx
    have HY := Lib.hid hy
    obtain ⟨b1, o1, rfl, d0, d1⟩ := HA.out.step hx
    obtain ⟨b2, o2, rfl, f0, f1⟩ := HB.out.step hy
    clear hx hy
    have y0 : (0 : Int) ≤ i := by omega
    have y1 : (i : Int) < n := by omega
    have q1 := eq_st13 x y
    obtain ⟨e1, he1⟩ : ∃ e, eqS x y = e := ⟨_, rfl⟩
    have HE := Lib.hid he1
    rw [he1] at q1
    clear he1
    unfold stA13 at q1
    go_upto_region 6 with fail
    cases e1 with
    | false =>
      go_quiet (fail)
      go_wp2
      go_ret
      have hqf : q = false := by
        rw [← HQ.out]
        refine decide_eq_false fun h => ?_
        have h_ := HX.out
        rw [h, HY.out] at h_
        injection h_ with h_
        have he := HE.out
        rw [h_, (eqS_iff x x).2 rfl] at he
        cases he
      exact ⟨by first | rfl | (rw [hqf]; rfl) | rw [hqf], by first | exact below_draws (Below.refl _ _) _ | (rw [World.drewN_drewN]; exact below_draws (Below.refl _ _) _)⟩
    | true =>
      go_quiet (fail)
      go_wp2
      go_roundg (gk - 1)
      case measure => omega
      case rel =>
        refine ⟨i + 1, _, by omega, by omega, by go_num, Lib.hid (fun j hj => ?_), by first | rfl | rw [World.drewN_drewN]⟩
        by_cases hji : j = i
        · rw [hji, HX.out, HY.out, (eqS_iff x y).1 HE.out]
        · exact HEQ.out j (by omega)

set_option maxRecDepth 100000 in
set_option maxHeartbeats 8000000 in
theorem rsame_any13 (r s : Rt3) (u v : Value) (w : World) (hu : PathV w u r.path) (hv : PathV w v s.path) (hl : r.path.length ≤ 1048576) :
    Calls Try.prog 13 #[.agg (rtA r u), .agg (rtA s v)] w fun e w' => e = .returned (.bool (sameR r s)) ∧ Below w.heap.size w w' := by
  obtain ⟨A, c, rfl, ha⟩ := hu
  obtain ⟨B, d, rfl, hb⟩ := hv
  obtain ⟨i1, p1, g1, t1⟩ := r
  obtain ⟨i2, p2, g2, t2⟩ := s
  unfold sameR rtA
  dsimp only at *
  obtain ⟨n, hn⟩ : ∃ n, p1.length = n := ⟨_, rfl⟩
  obtain ⟨m, hm⟩ : ∃ m, p2.length = m := ⟨_, rfl⟩
  rw [hn] at ha
  rw [hm] at hb
  rw [hn, hm]
  rw [hn] at hl
  have HLN := Lib.hid hl
  obtain ⟨wa, hwa⟩ : ∃ wa, (w.alloc (.cells #[.int .i64 i1, .slice A n c, .int .i64 g1, .int .i64 t1] 36)).alloc (.cells #[.int .i64 i2, .slice B m d, .int .i64 g2, .int .i64 t2] 36) = wa := ⟨_, rfl⟩
  have hbwa : Below w.heap.size w wa := by rw [← hwa]; exact ((Below.refl _ _).alloc (Nat.le_refl _) _).alloc (by simp) _
  have h0 : Has wa (w.heap.size) 36 #[.int .i64 i1, .slice A n c, .int .i64 g1, .int .i64 t1] := by rw [← hwa]; exact ((Has.made _ _ _).beside _)
  have h1 : Has wa (w.heap.size + 1) 36 #[.int .i64 i2, .slice B m d, .int .i64 g2, .int .i64 t2] := by rw [← hwa]; exact (has_at11 (by simp))
  have HWA := Lib.hid hwa; have HBWA := Lib.hid hbwa
  have HA := Lib.hid (ha.under hbwa)
  have HB := Lib.hid (hb.under hbwa)
  have H0 := Lib.hid (fun W (hW : Below wa.heap.size wa W) => h0.under hW h0.lt)
  have H1 := Lib.hid (fun W (hW : Below wa.heap.size wa W) => h1.under hW h1.lt)
  have c1 : wa.cell? ⟨w.heap.size, 1, none⟩ = some (.slice A n c) := h0.cell 1
  have f1 : wa.cell? ⟨w.heap.size + 1, 1, none⟩ = some (.slice B m d) := h1.cell 1
  clear hwa hbwa h0 h1 ha hb hn hm hl
  obtain ⟨b, hb⟩ : ∃ b, decide (p1 = p2) = b := ⟨_, rfl⟩
  have HBB := Lib.hid hb
  rw [hb]
  clear hb
  go_enter Try.func13, Try.ntmps13
  go_upto_region 1 with fail
  rw [HWA.out]
  clear HWA
  go_wp2_with fail
  refine (rsteps_any A B n c m d p1 p2 wa HA.out HB.out (by have := HLN.out; omega)).mono ?_
  rw [HBB.out]
  rintro e w1 ⟨rfl, hb1⟩
  clear c1 f1
  have HE := Lib.hid (HBWA.out.trans (hb1.mono HBWA.out.size))
  have c0 : w1.cell? ⟨w.heap.size, 0, none⟩ = some (.int .i64 i1) := (H0.out w1 hb1).cell 0
  have f0 : w1.cell? ⟨w.heap.size + 1, 0, none⟩ = some (.int .i64 i2) := (H1.out w1 hb1).cell 0
  have c2 : w1.cell? ⟨w.heap.size, 2, none⟩ = some (.int .i64 g1) := (H0.out w1 hb1).cell 2
  have f2 : w1.cell? ⟨w.heap.size + 1, 2, none⟩ = some (.int .i64 g2) := (H1.out w1 hb1).cell 2
  have c3 : w1.cell? ⟨w.heap.size, 3, none⟩ = some (.int .i64 t1) := (H0.out w1 hb1).cell 3
  have f3 : w1.cell? ⟨w.heap.size + 1, 3, none⟩ = some (.int .i64 t2) := (H1.out w1 hb1).cell 3
  clear hb1 H0 H1
  cases b with
  | false =>
    go_upto_region 2 with fail
    go_wp2
    go_ret
    exact ⟨by first | rfl | (simp; done) | simp [e1], HE.out⟩
  | true =>
    by_cases h1 : i1 = i2
    rotate_left
    · have e1 : (i1 == i2) = false := by simp [h1]
      clear h1
      go_upto_region 2 with fail
      go_wp2
      go_ret
      exact ⟨by first | rfl | (simp; done) | simp [e1], HE.out⟩
    subst h1
    by_cases h2 : g1 = g2
    rotate_left
    · have e1 : (g1 == g2) = false := by simp [h2]
      clear h2
      go_upto_region 2 with fail
      go_wp2
      go_ret
      exact ⟨by first | rfl | (simp; done) | simp [e1], HE.out⟩
    subst h2
    by_cases h3 : t1 = t2
    rotate_left
    · have e1 : (t1 == t2) = false := by simp [h3]
      clear h3
      go_upto_region 2 with fail
      go_wp2
      go_ret
      exact ⟨by first | rfl | (simp; done) | simp [e1], HE.out⟩
    subst h3
    go_upto_region 2 with fail
    go_wp2
    go_ret
    exact ⟨by first | rfl | (simp; done) | simp [e1], HE.out⟩

set_option maxRecDepth 100000 in
set_option maxHeartbeats 8000000 in
theorem rlight_any13 (t : Tp3) (a : TpA) (w : World) (ht : TopR w t a) :
    Calls Try.prog 8 #[.agg (tpC t a)] w fun e w' => e = .returned (.bool (lightT t)) ∧ Below w.heap.size w w' := by
  obtain ⟨wa, hwa⟩ : ∃ wa, w.alloc (.cells (tpC t a) 27) = wa := ⟨_, rfl⟩
  have hbwa : Below w.heap.size w wa := by rw [← hwa]; exact (Below.refl _ _).alloc (Nat.le_refl _) _
  have h0 : Has wa (w.heap.size) 27 (tpC t a) := by rw [← hwa]; exact (Has.made _ _ _)
  have HWA := Lib.hid hwa; have HBWA := Lib.hid hbwa
  have HS := Lib.hid (ht.under hbwa).r
  have c0 : wa.cell? ⟨w.heap.size, 0, none⟩ = some (.slice a.ae t.edges.length a.ce) := h0.cell 0
  have c1 : wa.cell? ⟨w.heap.size, 1, none⟩ = some (.slice a.aj t.joints.length a.cj) := h0.cell 1
  have c2 : wa.cell? ⟨w.heap.size, 2, none⟩ = some (.slice a.ab t.bals.length a.cb) := h0.cell 2
  have c3 : wa.cell? ⟨w.heap.size, 3, none⟩ = some (.slice a.ar t.routes.length a.cr) := h0.cell 3
  clear hwa hbwa h0 ht
  obtain ⟨q, hq⟩ : ∃ q, lightT t = q := ⟨_, rfl⟩
  have HQ := Lib.hid hq
  rw [hq]
  unfold lightT at hq
  obtain ⟨n0, hn0⟩ : ∃ n, t.edges.length = n := ⟨_, rfl⟩
  rw [hn0] at c0 hq
  obtain ⟨n1, hn1⟩ : ∃ n, t.joints.length = n := ⟨_, rfl⟩
  rw [hn1] at c1 hq
  obtain ⟨n2, hn2⟩ : ∃ n, t.bals.length = n := ⟨_, rfl⟩
  rw [hn2] at c2 hq
  obtain ⟨n3, hn3⟩ : ∃ n, t.routes.length = n := ⟨_, rfl⟩
  rw [hn3] at c3 hq
  have HN := Lib.hid hn3
  clear hn0 hn1 hn2 hn3
  by_cases k0 : 100 < n0
  · have hqf : q = false := by rw [← hq, decide_eq_false (show ¬ n0 ≤ 100 by omega)]; simp
    have x0 : (100 : Int) < n0 := by omega
    clear hq
    go_enter Try.func8, Try.ntmps8
    go_upto_region 1 with fail
    rw [HWA.out]
    clear HWA
    go_wp2
    go_ret
    exact ⟨by first | rfl | (rw [hqf]; rfl) | rw [hqf], HBWA.out⟩
  have x0 : ¬ (100 : Int) < n0 := by omega
  by_cases k1 : 100 < n1
  · have hqf : q = false := by rw [← hq, decide_eq_false (show ¬ n1 ≤ 100 by omega)]; simp
    have x1 : (100 : Int) < n1 := by omega
    clear hq
    go_enter Try.func8, Try.ntmps8
    go_upto_region 1 with fail
    rw [HWA.out]
    clear HWA
    go_wp2
    go_ret
    exact ⟨by first | rfl | (rw [hqf]; rfl) | rw [hqf], HBWA.out⟩
  have x1 : ¬ (100 : Int) < n1 := by omega
  by_cases k2 : 100 < n2
  · have hqf : q = false := by rw [← hq, decide_eq_false (show ¬ n2 ≤ 100 by omega)]; simp
    have x2 : (100 : Int) < n2 := by omega
    clear hq
    go_enter Try.func8, Try.ntmps8
    go_upto_region 1 with fail
    rw [HWA.out]
    clear HWA
    go_wp2
    go_ret
    exact ⟨by first | rfl | (rw [hqf]; rfl) | rw [hqf], HBWA.out⟩
  have x2 : ¬ (100 : Int) < n2 := by omega
  by_cases k3 : 100 < n3
  · have hqf : q = false := by rw [← hq, decide_eq_false (show ¬ n3 ≤ 100 by omega)]; simp
    have x3 : (100 : Int) < n3 := by omega
    clear hq
    go_enter Try.func8, Try.ntmps8
    go_upto_region 1 with fail
    rw [HWA.out]
    clear HWA
    go_wp2
    go_ret
    exact ⟨by first | rfl | (rw [hqf]; rfl) | rw [hqf], HBWA.out⟩
  have x3 : ¬ (100 : Int) < n3 := by omega
  rw [decide_eq_true (show n0 ≤ 100 by omega), decide_eq_true (show n1 ≤ 100 by omega), decide_eq_true (show n2 ≤ 100 by omega), decide_eq_true (show n3 ≤ 100 by omega), Bool.true_and, Bool.true_and, Bool.true_and, Bool.true_and] at hq
  have HQ2 := Lib.hid hq
  clear hq k0 k1 k2
  go_enter Try.func8, Try.ntmps8
  go_upto_region 1 with fail
  rw [HWA.out]
  clear HWA
  go_upto_region 3 with fail
  clear x0 x1 x2 x3 c0 c1 c2
  go_wp2
  go_loopg [3] n3 (fun kk v wl => ∃ i : Nat, i ≤ n3 ∧ n3 - i ≤ kk ∧ v = .int .i64 i ∧ Hid (∀ m y, m < i → t.routes[m]? = some y → y.path.length ≤ 100) ∧ wl = wa)
  case atStart => exact ⟨0, by omega, by omega, rfl, Lib.hid fun m y h => absurd h (by omega), rfl⟩
  case round =>
    obtain ⟨i, hi, hik, rfl, HNO, rfl⟩ := hrel
    by_cases hlt : i < n3
    rotate_left
    · have x1 : ¬ (i : Int) < n3 := by omega
      have hqf : q = true := by
        rw [← HQ2.out, List.all_eq_true]
        intro r hr
        obtain ⟨m, hm, rfl⟩ := List.getElem_of_mem hr
        exact decide_eq_true (HNO.out m _ (by have := HN.out; omega) (List.getElem?_eq_getElem hm))
      go_wp2
      go_ret
      exact ⟨by first | rfl | (rw [hqf]; rfl) | rw [hqf], HBWA.out⟩
    obtain ⟨x, hx⟩ : ∃ x, t.routes[i]? = some x := ⟨_, List.getElem?_eq_getElem (by rw [HN.out]; omega)⟩
    have HX := Lib.hid hx
    obtain ⟨bk, off, PA, pc, hab, -, -, d1, -, -⟩ := HS.out.at_ hx
    rw [hab] at c3
    have y0 : (0 : Int) ≤ i := by omega
    have y1 : (i : Int) < n3 := by omega
    obtain ⟨u, hu⟩ : ∃ u, x.path.length = u := ⟨_, rfl⟩
    have HU := Lib.hid hu
    rw [hu] at d1
    clear hx hu hab
    by_cases hu : 100 < u
    · have x1 : (100 : Int) < u := by omega
      have hqf : q = false := by
        rw [← HQ2.out, List.all_eq_false]
        exact ⟨x, List.mem_of_getElem? HX.out, by rw [HU.out]; simp; omega⟩
      go_wp2
      go_ret
      exact ⟨by first | rfl | (rw [hqf]; rfl) | rw [hqf], HBWA.out⟩
    have x1 : ¬ (100 : Int) < u := by omega
    go_wp2
    go_roundg (gk - 1)
    case measure => omega
    case rel =>
      refine ⟨i + 1, by omega, by omega, by go_num, Lib.hid (fun m y hm hy => ?_), rfl⟩
      by_cases hmi : m = i
      · rw [hmi, HX.out] at hy
        injection hy with hy
        rw [← hy, HU.out]
        omega
      · exact HNO.out m y (by omega) hy

end Go.Proofs.Ytkigdeohlomgiaa
