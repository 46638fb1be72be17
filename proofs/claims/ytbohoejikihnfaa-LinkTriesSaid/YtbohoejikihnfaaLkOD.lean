/-
  package link as landed: find: slices.BinarySearchFunc over the waits.
-/
import Derived.Test.YtbohoejikihnfaaLkOA

namespace Go.Proofs.Ytbohoejikihnfaa

open Go.RowKit

open Go.Great

set_option maxRecDepth 100000 in
set_option maxHeartbeats 8000000 in
theorem onan_any (x : Int) (w : World) :
    Calls Try.prog 50 #[.int .i64 x] w fun e w' => e = .returned (.bool false) ∧ w = w' := by
  have hx : (x != x) = false := by simp
  go_enter Try.func50, Try.ntmps50
  go_wp2
  go_ret
  exact ⟨rfl, rfl⟩

def cmpI (a b : Int) : Int := if a < b then -1 else if b < a then 1 else 0

set_option maxRecDepth 100000 in
set_option maxHeartbeats 8000000 in
theorem ocmp_any (x y : Int) (w : World) :
    Calls Try.prog 42 #[.int .i64 x, .int .i64 y] w fun e w' => e = .returned (.int .i64 (cmpI x y)) ∧ w = w' := by
  have H := Lib.hid (fun z => onan_any z w)
  unfold cmpI
  rcases Int.lt_trichotomy x y with h | h | h
  · have h2 : ¬ y < x := by omega
    rw [if_pos h]
    go_enter Try.func42, Try.ntmps42
    go_wp2_with fail
    refine (H.out _).mono ?_
    rintro e w' ⟨rfl, rfl⟩
    go_wp2_with fail
    refine (H.out _).mono ?_
    rintro e w' ⟨rfl, rfl⟩
    go_wp2
    go_ret
    exact ⟨rfl, rfl⟩
  · subst h
    have h2 : ¬ x < x := by omega
    rw [if_neg h2, if_neg h2]
    go_enter Try.func42, Try.ntmps42
    go_wp2_with fail
    refine (H.out _).mono ?_
    rintro e w' ⟨rfl, rfl⟩
    go_wp2_with fail
    refine (H.out _).mono ?_
    rintro e w' ⟨rfl, rfl⟩
    go_wp2
    go_ret
    exact ⟨rfl, rfl⟩
  · have h2 : ¬ x < y := by omega
    rw [if_neg h2, if_pos h]
    go_enter Try.func42, Try.ntmps42
    go_wp2_with fail
    refine (H.out _).mono ?_
    rintro e w' ⟨rfl, rfl⟩
    go_wp2_with fail
    refine (H.out _).mono ?_
    rintro e w' ⟨rfl, rfl⟩
    go_wp2
    go_ret
    exact ⟨rfl, rfl⟩

set_option maxRecDepth 100000 in
set_option maxHeartbeats 8000000 in
theorem ofcmp_any (x : W0) (v : Value) (t : Int) (w : World) :
    Calls Try.prog 41 #[.agg (wtA x v), .int .i64 t] w fun e w' => e = .returned (.int .i64 (cmpI x.t t)) ∧ Below w.heap.size w w' := by
  obtain ⟨wa, hwa⟩ : ∃ wa, w.alloc (.cells (wtA x v) 48) = wa := ⟨_, rfl⟩
  have hbwa : Below w.heap.size w wa := by rw [← hwa]; exact (Below.refl _ _).alloc (Nat.le_refl _) _
  have h0 : Has wa w.heap.size 48 (wtA x v) := by rw [← hwa]; exact Has.made _ _ _
  have HWA := Lib.hid hwa; have HB := Lib.hid hbwa
  have c0 : wa.cell? ⟨w.heap.size, 0, none⟩ = some (.int .i64 x.t) := h0.cell 0
  have H := Lib.hid (ocmp_any x.t t wa)
  clear hwa hbwa h0
  obtain ⟨T, due, tries, body⟩ := x
  unfold wtA at *
  dsimp only at *
  generalize cmpI T t = r at *
  go_enter Try.func41, Try.ntmps41
  go_upto_region 1 with fail
  rw [HWA.out]
  clear HWA
  go_wp2_with fail
  refine H.out.mono ?_
  rintro e w' ⟨rfl, rfl⟩
  go_wp2
  go_ret
  exact ⟨rfl, HB.out⟩

/-- i is where a time t stands, or would stand. -/
def PosT (ws : List W0) (t : Int) (i : Nat) : Prop := i ≤ ws.length ∧ (∀ j x, ws[j]? = some x → j < i → x.t < t) ∧ (∀ j x, ws[j]? = some x → i ≤ j → t ≤ x.t)
theorem sort_lt12 {ws : List W0} (h : ws.Pairwise fun a b => a.t < b.t) {i j : Nat} {x y : W0} (hx : ws[i]? = some x) (hy : ws[j]? = some y) (hij : i < j) : x.t < y.t := by
  obtain ⟨h1, e1⟩ := List.getElem?_eq_some_iff.1 hx
  obtain ⟨h2, e2⟩ := List.getElem?_eq_some_iff.1 hy
  rw [List.pairwise_iff_getElem] at h
  have := h i j h1 h2 hij
  rw [e1, e2] at this
  exact this
theorem posT_has {ws : List W0} {t : Int} {i : Nat} (h : PosT ws t i) {x : W0} (hx : ws[i]? = some x) (hs : ws.Pairwise fun a b => a.t < b.t) : hasT ws t = decide (x.t = t) := by
  refine bool_dec11 ⟨fun hh => ?_, fun e => ?_⟩
  · unfold hasT at hh
    obtain ⟨y, hy, e⟩ := List.any_eq_true.1 hh
    have e := (beq_iff_eq.1 e)
    obtain ⟨j, hj, rfl⟩ := List.getElem_of_mem hy
    have hj' := List.getElem?_eq_getElem hj
    rcases Nat.lt_trichotomy j i with h1 | h1 | h1
    · have := h.2.1 j _ hj' h1
      omega
    · subst h1
      rw [hj'] at hx
      cases hx
      exact e
    · have h2 := sort_lt12 hs hx hj' h1
      have h3 := h.2.2 i x hx (Nat.le_refl _)
      omega
  · unfold hasT
    exact List.any_eq_true.2 ⟨x, List.mem_of_getElem? hx, by simp [e]⟩
theorem posT_end {ws : List W0} {t : Int} (h : PosT ws t ws.length) : hasT ws t = false := by
  unfold hasT
  rw [List.any_eq_false]
  intro x hx
  obtain ⟨j, hj, rfl⟩ := List.getElem_of_mem hx
  have := h.2.1 j _ (List.getElem?_eq_getElem hj) hj
  simp
  omega

set_option maxRecDepth 100000 in
set_option maxHeartbeats 8000000 in
theorem obsearch_any {P : Nat → Prop} (A : Option Addr) (c : Nat) (ws : List W0) (n : Nat) (t : Int) (w : World) (hw : WsR P w A n c ws) (hs : ws.Pairwise fun a b => a.t < b.t) (hbig : n ≤ 1048576) :
    Calls Try.prog 40 #[.slice A n c, .int .i64 t, .func (.func 41) #[] #[]] w fun e w' => ∃ i : Nat, e = .returned (.tuple #[.int .i64 i, .bool (hasT ws t)]) ∧ PosT ws t i ∧ Below w.heap.size w w' := by
  have hn : ws.length = n := hw.len
  have HW := Lib.hid hw
  have HS := Lib.hid hs
  have HN := Lib.hid hn
  have HE := Lib.hid (fun x v W => ofcmp_any x v t W)
  obtain ⟨b, hb⟩ : ∃ b, hasT ws t = b := ⟨_, rfl⟩
  have HB := Lib.hid hb
  rw [hb]
  clear hw hs hb hn
  unfold wtA at HE
  have x0 : (0 : Int) ≤ n := by omega
  go_enter Try.func40, Try.ntmps40
  go_wp2
  go_loopg [9, 10] n (fun kx s9 s10 wl => ∃ lo hi : Nat, s9 = .int .i64 lo ∧ s10 = .int .i64 hi ∧ lo ≤ hi ∧ hi ≤ n ∧ hi - lo ≤ kx ∧ Below w.heap.size w wl ∧
    Hid ((∀ j x, ws[j]? = some x → j < lo → x.t < t) ∧ (∀ j x, ws[j]? = some x → hi ≤ j → t ≤ x.t)))
  case atStart => exact ⟨0, n, rfl, rfl, by omega, by omega, by omega, Below.refl _ _, Lib.hid ⟨fun j x _ h => absurd h (by omega), fun j x hx h => by have h9 := (List.getElem?_eq_some_iff.1 hx).1; rw [HN.out] at h9; omega⟩⟩
  case round =>
    obtain ⟨lo, hi, rfl, rfl, hlh, hin, hg, hbl, HI⟩ := hrel
    have HBL := Lib.hid hbl
    clear hbl
    by_cases hlt : lo < hi
    · obtain ⟨m, hm⟩ : ∃ m, (lo + hi) / 2 = m := ⟨_, rfl⟩
      have hml : lo ≤ m ∧ m < hi := by omega
      obtain ⟨x, hx⟩ : ∃ x, ws[m]? = some x := ⟨_, List.getElem?_eq_getElem (by rw [HN.out]; omega)⟩
      obtain ⟨bk, off, v, rfl, _, d0, d1, d2, d3⟩ := (HW.out.under HBL.out).at_ hx
      have HX := Lib.hid hx
      have y0 : (lo : Int) < hi := by omega
      have hmi : ((lo : Int) + (hi : Int)) / 2 = (m : Int) := by omega
      have y1 : (0 : Int) ≤ m := by omega
      have y2 : (m : Int) < n := by omega
      have HC := Lib.hid (HE.out x v wr)
      clear hx
      obtain ⟨r, hr⟩ : ∃ r, cmpI x.t t = r := ⟨_, rfl⟩
      have hrl : r < 0 ↔ x.t < t := by rw [← hr]; unfold cmpI; split <;> (try split) <;> omega
      rw [hr] at HC
      have HHI := Lib.hid hml
      clear hr hml
      by_cases hlt2 : r < 0
      · have hxt := hrl.1 hlt2
        have HN2 : Hid ((∀ j x, ws[j]? = some x → j < m + 1 → x.t < t) ∧ (∀ j x, ws[j]? = some x → hi ≤ j → t ≤ x.t)) := Lib.hid ⟨fun j y hy hj => by
          rcases Nat.lt_or_ge j m with h | h
          · have := sort_lt12 HS.out hy HX.out h
            omega
          · obtain rfl : j = m := by omega
            rw [HX.out] at hy
            cases hy
            exact hxt, HI.out.2⟩
        clear HI hrl hxt hm
        go_upto_region 5 with fail
        go_wp2_with fail
        refine HC.out.mono ?_
        rintro e w1 ⟨rfl, hb1⟩
        have HB1 := Lib.hid (HBL.out.trans (hb1.mono HBL.out.size))
        clear hb1 d0 d1 d2 d3
        go_wp2
        go_roundg (hi - (m + 1))
        case measure => have := HHI.out; omega
        case rel => exact ⟨m + 1, hi, by go_num, rfl, by have := HHI.out; omega, hin, Nat.le_refl _, HB1.out, HN2⟩
      · have hxt : ¬ x.t < t := fun h => hlt2 (hrl.2 h)
        have HN2 : Hid ((∀ j x, ws[j]? = some x → j < lo → x.t < t) ∧ (∀ j x, ws[j]? = some x → m ≤ j → t ≤ x.t)) := Lib.hid ⟨HI.out.1, fun j y hy hj => by
          rcases Nat.lt_or_ge m j with h | h
          · have := sort_lt12 HS.out HX.out hy h
            omega
          · obtain rfl : j = m := by omega
            rw [HX.out] at hy
            cases hy
            omega⟩
        clear HI hrl hxt hm
        go_upto_region 5 with fail
        go_wp2_with fail
        refine HC.out.mono ?_
        rintro e w1 ⟨rfl, hb1⟩
        have HB1 := Lib.hid (HBL.out.trans (hb1.mono HBL.out.size))
        clear hb1 d0 d1 d2 d3
        go_wp2
        go_roundg (m - lo)
        case measure => have := HHI.out; omega
        case rel => exact ⟨lo, m, rfl, rfl, by have := HHI.out; omega, by have := HHI.out; omega, Nat.le_refl _, HB1.out, HN2⟩
    · have y0 : ¬ (lo : Int) < hi := by omega
      have HP : Hid (PosT ws t lo) := Lib.hid ⟨by rw [HN.out]; omega, HI.out.1, fun j x hx hj => HI.out.2 j x hx (by omega)⟩
      clear HI
      by_cases hlt3 : lo < n
      · obtain ⟨x, hx⟩ : ∃ x, ws[lo]? = some x := ⟨_, List.getElem?_eq_getElem (by rw [HN.out]; omega)⟩
        obtain ⟨bk, off, v, rfl, _, d0, d1, d2, d3⟩ := (HW.out.under HBL.out).at_ hx
        have y1 : (0 : Int) ≤ lo := by omega
        have y2 : (lo : Int) < n := by omega
        have HC := Lib.hid (HE.out x v wr)
        obtain ⟨r, hr⟩ : ∃ r, cmpI x.t t = r := ⟨_, rfl⟩
        have hrl : (r == 0) = b := by
          rw [← HB.out, posT_has HP.out hx HS.out, ← hr]
          unfold cmpI
          refine bool_dec11 ?_
          rw [beq_iff_eq]
          split <;> (try split) <;> omega
        rw [hr] at HC
        have hrd : decide (r = 0) = b := by rw [← hrl, Bool.eq_iff_iff]; simp
        clear hx hr
        go_upto_region 8 with fail
        go_wp2_with fail
        refine HC.out.mono ?_
        rintro e w1 ⟨rfl, hb1⟩
        have HB1 := Lib.hid (HBL.out.trans (hb1.mono HBL.out.size))
        clear hb1 d0 d1 d2 d3
        go_wp2
        go_ret2
        exact ⟨lo, by first | rfl | rw [hrl] | rw [hrd], HP.out, HB1.out⟩
      · have y3 : ¬ (lo : Int) < n := by omega
        have hln : ws.length = lo := by have := HN.out; omega
        have HBF : Hid (false = b) := Lib.hid (by
          rw [← HB.out]
          have hp := HP.out
          rw [← hln] at hp
          exact (posT_end hp).symm)
        clear hln
        go_upto_region 8 with fail
        go_wp2
        go_ret2
        exact ⟨lo, by exact congrArg (fun q => Ending.returned (Value.tuple #[Value.int IntKind.i64 (lo : Int), Value.bool q])) HBF.out, HP.out, HBL.out⟩

set_option maxRecDepth 100000 in
set_option maxHeartbeats 8000000 in
theorem ofind_any {P : Nat → Prop} (A : Option Addr) (c : Nat) (ws : List W0) (n : Nat) (t : Int) (w : World) (hw : WsR P w A n c ws) (hs : ws.Pairwise fun a b => a.t < b.t) (hbig : n ≤ 1048576) :
    Calls Try.prog 27 #[.slice A n c, .int .i64 t] w fun e w' => ∃ i : Nat, e = .returned (.tuple #[.int .i64 i, .bool (hasT ws t)]) ∧ PosT ws t i ∧ Below w.heap.size w w' := by
  have H := Lib.hid (obsearch_any A c ws n t w hw hs hbig)
  generalize hasT ws t = b at *
  clear hw hs hbig
  go_enter Try.func27, Try.ntmps27
  go_wp2_with fail
  refine H.out.mono ?_
  rintro e w1 ⟨i, rfl, hp, hb⟩
  have HP := Lib.hid hp
  have HB := Lib.hid hb
  clear hp hb H
  go_wp2
  go_ret2
  exact ⟨i, rfl, HP.out, HB.out⟩
end Go.Proofs.Ytbohoejikihnfaa
