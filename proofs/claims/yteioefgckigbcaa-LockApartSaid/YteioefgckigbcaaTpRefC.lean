/-
  linesideref13, by contract: Bal, Route, Steps, SameRoute, Light.
-/
import Derived.Test.YteioefgckigbcaaTpRefB

import Derived.BigQuiet

import Derived.IntWalk

namespace Go.Proofs.Yteioefgckigbcaa

open Go.RowKit

open Go.Great

theorem find_at13 {α : Type} {p : α → Bool} {l : List α} {i : Nat} {x : α} (hx : l[i]? = some x) (hp : p x = true) (hno : ∀ m y, m < i → l[m]? = some y → p y = false) : l.find? p = some x := by
  induction l generalizing i with
  | nil => simp at hx
  | cons a r ih =>
    cases i with
    | zero =>
      simp at hx
      subst hx
      exact List.find?_cons_of_pos hp
    | succ k =>
      rw [List.find?_cons_of_neg (by rw [hno 0 a (by omega) rfl]; decide)]
      exact ih (i := k) (by simpa using hx) fun m y hm hy => hno (m + 1) y (by omega) (by simpa using hy)
theorem find_none13 {α : Type} {p : α → Bool} {l : List α} (hno : ∀ m y, m < l.length → l[m]? = some y → p y = false) : l.find? p = none := by
  rw [List.find?_eq_none]
  intro y hy
  obtain ⟨m, hm, rfl⟩ := List.getElem_of_mem hy
  rw [hno m _ hm (List.getElem?_eq_getElem hm)]
  decide
instance : DecidableEq St3 := fun a b => decidable_of_iff (eqS a b = true) (eqS_iff a b)
theorem RtsR.at2 {w w' : World} {A : Option Addr} {n c : Nat} {rs : List Rt3} (h : RtsR w A n c rs) (hb : Below w.heap.size w w') {j : Nat} {r : Rt3} (hr : rs[j]? = some r) :
    ∃ b off PA pc, A = some ⟨b, off, none⟩ ∧ SlO stC 2 w PA r.path.length pc r.path ∧ w'.cell? ⟨b, off + j * 4, none⟩ = some (.int .i64 r.id) ∧ w'.cell? ⟨b, off + j * 4 + 1, none⟩ = some (.slice PA r.path.length pc) ∧ w'.cell? ⟨b, off + j * 4 + 2, none⟩ = some (.int .i64 r.gap) ∧ w'.cell? ⟨b, off + j * 4 + 3, none⟩ = some (.int .i64 r.timer) := by
  obtain ⟨l, rfl, h2, h3⟩ := h
  rw [List.getElem?_map] at hr
  obtain ⟨p, hp, rfl⟩ := Option.map_eq_some_iff.1 hr
  obtain ⟨b, off, e, hc⟩ := (h2.under hb).at_ (fun _ => rfl) (by decide) hp
  obtain ⟨⟨PA, pc, ev, hs⟩, _⟩ := h3 p (List.mem_of_getElem? hp)
  have h1 := hc 1 p.2 rfl
  rw [ev] at h1
  exact ⟨b, off, PA, pc, e, hs, hc 0 _ rfl, h1, hc 2 _ rfl, hc 3 _ rfl⟩
def rtA (r : Rt3) (v : Value) : Array Value := #[.int .i64 r.id, v, .int .i64 r.gap, .int .i64 r.timer]
def balR (t : Tp3) (id : Int) : Bl3 := (balF t id).getD ⟨0, 0, 0⟩
def routeR (t : Tp3) (id : Int) : Rt3 := (routeF t id).getD ⟨0, [], 0, 0⟩
def sameR (a b : Rt3) : Bool := decide (a.path = b.path) && ((a.id == b.id) && ((a.gap == b.gap) && (a.timer == b.timer)))
theorem sameR_iff (a b : Rt3) : sameR a b = true ↔ a = b := by
  obtain ⟨a1, a2, a3, a4⟩ := a
  obtain ⟨b1, b2, b3, b4⟩ := b
  unfold sameR
  simp
  constructor
  · rintro ⟨h1, h2, h3, h4⟩
    exact ⟨h2, h1, h3, h4⟩
  · rintro ⟨h1, h2, h3, h4⟩
    exact ⟨h2, h1, h3, h4⟩

set_option maxRecDepth 100000 in
set_option maxHeartbeats 8000000 in
theorem rlight_any13 (t : Tp3) (a : TpA) (w : World) (ht : TopR w t a) :
    Calls Try.prog 16 #[.agg (tpC t a)] w fun e w' => e = .returned (.bool (lightT t)) ∧ Below w.heap.size w w' := by
  obtain ⟨wa, hwa⟩ : ∃ wa, w.alloc (.cells (tpC t a) 27) = wa := ⟨_, rfl⟩
  have hbwa : Below w.heap.size w wa := by rw [← hwa]; exact (Below.refl _ _).alloc (Nat.le_refl _) _
  have h0 : Has wa (w.heap.size) 27 (tpC t a) := by rw [← hwa]; exact (Has.made _ _ _)
  have HWA := Lib.hid hwa; have HBWA := Lib.hid hbwa
  have HS := Lib.hid (ht.under hbwa).r
  have c0 : wa.cell? ⟨w.heap.size, 0, none⟩ = some (.slice a.ae t.edges.length a.ce) := h0.cell 0
  have c1 : wa.cell? ⟨w.heap.size, 1, none⟩ = some (.slice a.aj t.joints.length a.cj) := h0.cell 1
  have c2 : wa.cell? ⟨w.heap.size, 2, none⟩ = some (.slice a.ab t.bals.length a.cb) := h0.cell 2
  have c3 : wa.cell? ⟨w.heap.size, 3, none⟩ = some (.slice a.ar t.routes.length a.cr) := h0.cell 3
  clear hwa hbwa h0 ht
  obtain ⟨q, hq⟩ : ∃ q, lightT t = q := ⟨_, rfl⟩
  have HQ := Lib.hid hq
  rw [hq]
  unfold lightT at hq
  obtain ⟨n0, hn0⟩ : ∃ n, t.edges.length = n := ⟨_, rfl⟩
  rw [hn0] at c0 hq
  obtain ⟨n1, hn1⟩ : ∃ n, t.joints.length = n := ⟨_, rfl⟩
  rw [hn1] at c1 hq
  obtain ⟨n2, hn2⟩ : ∃ n, t.bals.length = n := ⟨_, rfl⟩
  rw [hn2] at c2 hq
  obtain ⟨n3, hn3⟩ : ∃ n, t.routes.length = n := ⟨_, rfl⟩
  rw [hn3] at c3 hq
  have HN := Lib.hid hn3
  clear hn0 hn1 hn2 hn3
  by_cases k0 : 100 < n0
  · have hqf : q = false := by rw [← hq, decide_eq_false (show ¬ n0 ≤ 100 by omega)]; simp
    have x0 : (100 : Int) < n0 := by omega
    clear hq
    go_enter Try.func16, Try.ntmps16
    go_upto_region 1 with fail
    rw [HWA.out]
    clear HWA
    go_wp2
    go_ret
    exact ⟨by first | rfl | (rw [hqf]; rfl) | rw [hqf], HBWA.out⟩
  have x0 : ¬ (100 : Int) < n0 := by omega
  by_cases k1 : 100 < n1
  · have hqf : q = false := by rw [← hq, decide_eq_false (show ¬ n1 ≤ 100 by omega)]; simp
    have x1 : (100 : Int) < n1 := by omega
    clear hq
    go_enter Try.func16, Try.ntmps16
    go_upto_region 1 with fail
    rw [HWA.out]
    clear HWA
    go_wp2
    go_ret
    exact ⟨by first | rfl | (rw [hqf]; rfl) | rw [hqf], HBWA.out⟩
  have x1 : ¬ (100 : Int) < n1 := by omega
  by_cases k2 : 100 < n2
  · have hqf : q = false := by rw [← hq, decide_eq_false (show ¬ n2 ≤ 100 by omega)]; simp
    have x2 : (100 : Int) < n2 := by omega
    clear hq
    go_enter Try.func16, Try.ntmps16
    go_upto_region 1 with fail
    rw [HWA.out]
    clear HWA
    go_wp2
    go_ret
    exact ⟨by first | rfl | (rw [hqf]; rfl) | rw [hqf], HBWA.out⟩
  have x2 : ¬ (100 : Int) < n2 := by omega
  by_cases k3 : 100 < n3
  · have hqf : q = false := by rw [← hq, decide_eq_false (show ¬ n3 ≤ 100 by omega)]; simp
    have x3 : (100 : Int) < n3 := by omega
    clear hq
    go_enter Try.func16, Try.ntmps16
    go_upto_region 1 with fail
    rw [HWA.out]
    clear HWA
    go_wp2
    go_ret
    exact ⟨by first | rfl | (rw [hqf]; rfl) | rw [hqf], HBWA.out⟩
  have x3 : ¬ (100 : Int) < n3 := by omega
  rw [decide_eq_true (show n0 ≤ 100 by omega), decide_eq_true (show n1 ≤ 100 by omega), decide_eq_true (show n2 ≤ 100 by omega), decide_eq_true (show n3 ≤ 100 by omega), Bool.true_and, Bool.true_and, Bool.true_and, Bool.true_and] at hq
  have HQ2 := Lib.hid hq
  clear hq k0 k1 k2
  go_enter Try.func16, Try.ntmps16
  go_upto_region 1 with fail
  rw [HWA.out]
  clear HWA
  go_upto_region 3 with fail
  clear x0 x1 x2 x3 c0 c1 c2
  go_wp2
  go_loopg [3] n3 (fun kk v wl => ∃ i : Nat, i ≤ n3 ∧ n3 - i ≤ kk ∧ v = .int .i64 i ∧ Hid (∀ m y, m < i → t.routes[m]? = some y → y.path.length ≤ 100) ∧ wl = wa)
  case atStart => exact ⟨0, by omega, by omega, rfl, Lib.hid fun m y h => absurd h (by omega), rfl⟩
  case round =>
    obtain ⟨i, hi, hik, rfl, HNO, rfl⟩ := hrel
    by_cases hlt : i < n3
    rotate_left
    · have x1 : ¬ (i : Int) < n3 := by omega
      have hqf : q = true := by
        rw [← HQ2.out, List.all_eq_true]
        intro r hr
        obtain ⟨m, hm, rfl⟩ := List.getElem_of_mem hr
        exact decide_eq_true (HNO.out m _ (by have := HN.out; omega) (List.getElem?_eq_getElem hm))
      go_wp2
      go_ret
      exact ⟨by first | rfl | (rw [hqf]; rfl) | rw [hqf], HBWA.out⟩
    obtain ⟨x, hx⟩ : ∃ x, t.routes[i]? = some x := ⟨_, List.getElem?_eq_getElem (by rw [HN.out]; omega)⟩
    have HX := Lib.hid hx
    obtain ⟨bk, off, PA, pc, hab, -, -, d1, -, -⟩ := HS.out.at_ hx
    rw [hab] at c3
    have y0 : (0 : Int) ≤ i := by omega
    have y1 : (i : Int) < n3 := by omega
    obtain ⟨u, hu⟩ : ∃ u, x.path.length = u := ⟨_, rfl⟩
    have HU := Lib.hid hu
    rw [hu] at d1
    clear hx hu hab
    by_cases hu : 100 < u
    · have x1 : (100 : Int) < u := by omega
      have hqf : q = false := by
        rw [← HQ2.out, List.all_eq_false]
        exact ⟨x, List.mem_of_getElem? HX.out, by rw [HU.out]; simp; omega⟩
      go_wp2
      go_ret
      exact ⟨by first | rfl | (rw [hqf]; rfl) | rw [hqf], HBWA.out⟩
    have x1 : ¬ (100 : Int) < u := by omega
    go_wp2
    go_roundg (gk - 1)
    case measure => omega
    case rel =>
      refine ⟨i + 1, by omega, by omega, by go_num, Lib.hid (fun m y hm hy => ?_), rfl⟩
      by_cases hmi : m = i
      · rw [hmi, HX.out] at hy
        injection hy with hy
        rw [← hy, HU.out]
        omega
      · exact HNO.out m y (by omega) hy

end Go.Proofs.Yteioefgckigbcaa
