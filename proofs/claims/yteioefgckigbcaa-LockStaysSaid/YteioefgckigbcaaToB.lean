/-
  package topo as landed: slices.IndexFunc and ContainsFunc with topo's questions; findBal, findRoute, edgesExist.
-/
import Derived.Test.YteioefgckigbcaaToA

namespace Go.Proofs.Yteioefgckigbcaa

open Go.RowKit

open Go.Great

def idxA {α : Type} (p : α → Bool) : List α → Nat → Int
  | [], _ => -1
  | x :: r, k => if p x = true then (k : Int) else idxA p r (k + 1)
def idxL {α : Type} (p : α → Bool) (l : List α) : Int := idxA p l 0
theorem idxA_spec {α : Type} (p : α → Bool) (l : List α) (k : Nat) : (idxA p l k = -1 ∧ ∀ (i : Nat) (y : α), l[i]? = some y → p y = false) ∨ ∃ (j : Nat) (x : α), l[j]? = some x ∧ p x = true ∧ (∀ (i : Nat) (y : α), i < j → l[i]? = some y → p y = false) ∧ idxA p l k = ((k + j : Nat) : Int) := by
  induction l generalizing k with
  | nil => exact .inl ⟨rfl, fun i y h => by simp at h⟩
  | cons x r ih =>
    unfold idxA
    by_cases hx : p x = true
    · rw [if_pos hx]
      exact .inr ⟨0, x, rfl, hx, fun i y h => absurd h (by omega), rfl⟩
    · rw [if_neg hx]
      have hx' : p x = false := by simpa using hx
      rcases ih (k + 1) with ⟨h1, h2⟩ | ⟨j, y, h1, h2, h3, h4⟩
      · refine .inl ⟨h1, fun i y h => ?_⟩
        cases i with
        | zero => simp at h; exact h ▸ hx'
        | succ m => exact h2 m y (by simpa using h)
      · refine .inr ⟨j + 1, y, by simpa using h1, h2, fun i z hi hz => ?_, by rw [h4]; congr 1; omega⟩
        cases i with
        | zero => simp at hz; exact hz ▸ hx'
        | succ m => exact h3 m z (by omega) (by simpa using hz)
theorem idx_hit {α : Type} {p : α → Bool} {l : List α} {j : Nat} {x : α} (hx : l[j]? = some x) (hp : p x = true) (hno : ∀ (i : Nat) (y : α), i < j → l[i]? = some y → p y = false) : idxL p l = j := by
  rcases idxA_spec p l 0 with ⟨_, h2⟩ | ⟨m, y, h1, h2, h3, h4⟩
  · rw [h2 j x hx] at hp; cases hp
  · unfold idxL
    rw [h4]
    rcases Nat.lt_trichotomy m j with h | h | h
    · rw [hno m y h h1] at h2; cases h2
    · rw [h]; congr 1; omega
    · rw [h3 j x h hx] at hp; cases hp
theorem idx_miss {α : Type} {p : α → Bool} {l : List α} (hno : ∀ (i : Nat) (y : α), i < l.length → l[i]? = some y → p y = false) : idxL p l = -1 := by
  rcases idxA_spec p l 0 with ⟨h1, _⟩ | ⟨m, y, h1, h2, _, _⟩
  · exact h1
  · rw [hno m y (List.getElem?_eq_some_iff.1 h1).1 h1] at h2; cases h2
theorem idx_nonneg {α : Type} (p : α → Bool) (l : List α) : decide (0 ≤ idxL p l) = l.any p := by
  rw [Bool.eq_iff_iff, decide_eq_true_eq, List.any_eq_true]
  unfold idxL
  rcases idxA_spec p l 0 with ⟨h1, h2⟩ | ⟨m, y, h1, h2, _, h4⟩
  · rw [h1]
    refine ⟨fun h => absurd h (by decide), ?_⟩
    rintro ⟨x, hx, e⟩
    obtain ⟨i, hi, rfl⟩ := List.getElem_of_mem hx
    rw [h2 i _ (List.getElem?_eq_getElem hi)] at e; cases e
  · rw [h4]
    exact ⟨fun _ => ⟨y, List.mem_of_getElem? h1, h2⟩, fun _ => by omega⟩

set_option maxRecDepth 100000 in
set_option maxHeartbeats 8000000 in
theorem otfb_any (b : Bl3) (id : Int) (g : Nat) (w : World) (hc : w.cell? ⟨g, 0, none⟩ = some (.int .i64 id)) :
    Calls Try.prog 75 #[.agg (blA b), .pointer (some ⟨g, 0, none⟩)] w fun e w' => e = .returned (.bool (b.id == id)) ∧ Below w.heap.size w w' := by
  obtain ⟨wa, hwa⟩ : ∃ wa, w.alloc (.cells (blA b) 73) = wa := ⟨_, rfl⟩
  have hbwa : Below w.heap.size w wa := by rw [← hwa]; exact (Below.refl _ _).alloc (Nat.le_refl _) _
  have h0 : Has wa (w.heap.size) 73 (blA b) := by rw [← hwa]; exact (Has.made _ _ _)
  have HWA := Lib.hid hwa; have HBWA := Lib.hid hbwa
  have c0 : wa.cell? ⟨w.heap.size, 0, none⟩ = some (.int .i64 b.id) := h0.cell 0
  have e0 : wa.cell? ⟨g, 0, none⟩ = some (.int .i64 id) := (hbwa.cell (cell_block hc)).trans hc
  clear hwa hbwa h0 hc
  obtain ⟨q, hq⟩ : ∃ q, (b.id == id) = q := ⟨_, rfl⟩
  rw [hq]
  unfold blA at *
  go_enter Try.func75, Try.ntmps75
  go_upto_region 1 with fail
  rw [HWA.out]
  clear HWA
  go_wp2
  go_ret
  exact ⟨by first | rfl | (rw [hq]; done) | simp_all, HBWA.out⟩

set_option maxRecDepth 100000 in
set_option maxHeartbeats 8000000 in
theorem otfr_any (r : Rt3) (v : Value) (id : Int) (g : Nat) (w : World) (hc : w.cell? ⟨g, 0, none⟩ = some (.int .i64 id)) :
    Calls Try.prog 81 #[.agg #[.int .i64 r.id, v, .int .i64 r.gap, .int .i64 r.timer], .pointer (some ⟨g, 0, none⟩)] w fun e w' => e = .returned (.bool (r.id == id)) ∧ Below w.heap.size w w' := by
  obtain ⟨wa, hwa⟩ : ∃ wa, w.alloc (.cells #[.int .i64 r.id, v, .int .i64 r.gap, .int .i64 r.timer] 61) = wa := ⟨_, rfl⟩
  have hbwa : Below w.heap.size w wa := by rw [← hwa]; exact (Below.refl _ _).alloc (Nat.le_refl _) _
  have h0 : Has wa (w.heap.size) 61 #[.int .i64 r.id, v, .int .i64 r.gap, .int .i64 r.timer] := by rw [← hwa]; exact (Has.made _ _ _)
  have HWA := Lib.hid hwa; have HBWA := Lib.hid hbwa
  have c0 : wa.cell? ⟨w.heap.size, 0, none⟩ = some (.int .i64 r.id) := h0.cell 0
  have e0 : wa.cell? ⟨g, 0, none⟩ = some (.int .i64 id) := (hbwa.cell (cell_block hc)).trans hc
  clear hwa hbwa h0 hc
  obtain ⟨q, hq⟩ : ∃ q, (r.id == id) = q := ⟨_, rfl⟩
  rw [hq]
  go_enter Try.func81, Try.ntmps81
  go_upto_region 1 with fail
  rw [HWA.out]
  clear HWA
  go_wp2
  go_ret
  exact ⟨by first | rfl | (rw [hq]; done) | simp_all, HBWA.out⟩

set_option maxRecDepth 100000 in
set_option maxHeartbeats 8000000 in
theorem otre_any (x : St3) (d : Int) (g : Nat) (w : World) (hc : w.cell? ⟨g, 0, none⟩ = some (.int .i64 d)) :
    Calls Try.prog 77 #[.agg (stA13 x), .pointer (some ⟨g, 0, none⟩)] w fun e w' => e = .returned (.bool (x.edge == d)) ∧ Below w.heap.size w w' := by
  obtain ⟨wa, hwa⟩ : ∃ wa, w.alloc (.cells (stA13 x) 75) = wa := ⟨_, rfl⟩
  have hbwa : Below w.heap.size w wa := by rw [← hwa]; exact (Below.refl _ _).alloc (Nat.le_refl _) _
  have h0 : Has wa (w.heap.size) 75 (stA13 x) := by rw [← hwa]; exact (Has.made _ _ _)
  have HWA := Lib.hid hwa; have HBWA := Lib.hid hbwa
  have c0 : wa.cell? ⟨w.heap.size, 0, none⟩ = some (.int .i64 x.edge) := h0.cell 0
  have e0 : wa.cell? ⟨g, 0, none⟩ = some (.int .i64 d) := (hbwa.cell (cell_block hc)).trans hc
  clear hwa hbwa h0 hc
  obtain ⟨q, hq⟩ : ∃ q, (x.edge == d) = q := ⟨_, rfl⟩
  rw [hq]
  unfold stA13 at *
  go_enter Try.func77, Try.ntmps77
  go_upto_region 1 with fail
  rw [HWA.out]
  clear HWA
  go_wp2
  go_ret
  exact ⟨by first | rfl | (rw [hq]; done) | simp_all, HBWA.out⟩

set_option maxRecDepth 100000 in
set_option maxHeartbeats 8000000 in
theorem othb_any (b : Bl3) (d : Int) (g : Nat) (w : World) (hc : w.cell? ⟨g, 0, none⟩ = some (.int .i64 d)) :
    Calls Try.prog 79 #[.agg (blA b), .pointer (some ⟨g, 0, none⟩)] w fun e w' => e = .returned (.bool (b.edge == d)) ∧ Below w.heap.size w w' := by
  obtain ⟨wa, hwa⟩ : ∃ wa, w.alloc (.cells (blA b) 73) = wa := ⟨_, rfl⟩
  have hbwa : Below w.heap.size w wa := by rw [← hwa]; exact (Below.refl _ _).alloc (Nat.le_refl _) _
  have h0 : Has wa (w.heap.size) 73 (blA b) := by rw [← hwa]; exact (Has.made _ _ _)
  have HWA := Lib.hid hwa; have HBWA := Lib.hid hbwa
  have c0 : wa.cell? ⟨w.heap.size, 1, none⟩ = some (.int .i64 b.edge) := h0.cell 1
  have e0 : wa.cell? ⟨g, 0, none⟩ = some (.int .i64 d) := (hbwa.cell (cell_block hc)).trans hc
  clear hwa hbwa h0 hc
  obtain ⟨q, hq⟩ : ∃ q, (b.edge == d) = q := ⟨_, rfl⟩
  rw [hq]
  unfold blA at *
  go_enter Try.func79, Try.ntmps79
  go_upto_region 1 with fail
  rw [HWA.out]
  clear HWA
  go_wp2
  go_ret
  exact ⟨by first | rfl | (rw [hq]; done) | simp_all, HBWA.out⟩

set_option maxRecDepth 100000 in
set_option maxHeartbeats 8000000 in
theorem otee_any (t : Tp3) (a : TpA) (x : St3) (g : Nat) (w : World) (hc : Has w g 27 (tpC t a)) (hl : t.edges.length ≤ 100) :
    Calls Try.prog 82 #[.agg (stA13 x), .pointer (some ⟨g, 0, none⟩)] w fun e w' => e = .returned (.bool (!edgeB t x.edge)) ∧ Below w.heap.size w w' := by
  obtain ⟨wa, hwa⟩ : ∃ wa, w.alloc (.cells (stA13 x) 75) = wa := ⟨_, rfl⟩
  have hbwa : Below w.heap.size w wa := by rw [← hwa]; exact (Below.refl _ _).alloc (Nat.le_refl _) _
  have h0 : Has wa (w.heap.size) 75 (stA13 x) := by rw [← hwa]; exact (Has.made _ _ _)
  have HWA := Lib.hid hwa; have HBWA := Lib.hid hbwa
  have c0 : wa.cell? ⟨w.heap.size, 0, none⟩ = some (.int .i64 x.edge) := h0.cell 0
  have HP := Lib.hid (hc.under hbwa hc.lt)
  have H := Lib.hid (fun W => otedge_any t a x.edge W hl)
  clear hwa hbwa h0 hc
  generalize edgeB t x.edge = q at *
  unfold stA13 at *
  go_enter Try.func82, Try.ntmps82
  go_upto_region 1 with fail
  rw [HWA.out]
  clear HWA
  go_wp2_with (with_reducible refine wpList_load_row (o := ⟨some 4, _, _, _, _, _⟩) rfl 27 _ rfl (g) rfl 27 (tpC t a) (0, 0) _ (HP.out).raw11 Try.underlying27 rfl (by kernel_rfl) ?_)
  refine (H.out _).mono ?_
  rintro e w1 ⟨rfl, hb1⟩
  have HB1 := Lib.hid (HBWA.out.trans (hb1.mono HBWA.out.size))
  clear hb1
  go_wp2
  go_ret
  exact ⟨rfl, HB1.out⟩

set_option maxRecDepth 100000 in
set_option maxHeartbeats 8000000 in
theorem otck_any (x : Int) (w : World) :
    Calls Try.prog 30 #[.int .i64 x] w fun e w' => e = .returned (.bool (!withinB x 1 1000000)) ∧ Below w.heap.size w w' := by
  have H := Lib.hid (otwithin_any x 1 1000000 w)
  have HB := Lib.hid (Below.refl w.heap.size w)
  generalize withinB x 1 1000000 = q at *
  go_enter Try.func30, Try.ntmps30
  go_wp2_with fail
  refine H.out.mono ?_
  rintro e w1 ⟨rfl, rfl⟩
  go_wp2
  go_ret
  exact ⟨rfl, HB.out⟩

theorem SlO.len13 {α : Type} {f : α → List Value} {k : Nat} {w : World} {A : Option Addr} {n c : Nat} {l : List α} (h : SlO f k w A n c l) : l.length = n := h.1
theorem RtsR.len13 {w : World} {A : Option Addr} {n c : Nat} {rs : List Rt3} (h : RtsR w A n c rs) : rs.length = n := by
  obtain ⟨l, rfl, h2, _⟩ := h
  rw [List.length_map]
  exact h2.1
theorem SlO.int13 {w : World} {A : Option Addr} {n c : Nat} {l : List Int} (h : SlO inC 1 w A n c l) {j : Nat} {x : Int} (hx : l[j]? = some x) : ∃ b off, A = some ⟨b, off, none⟩ ∧ w.cell? ⟨b, off + j, none⟩ = some (.int .i64 x) := by
  obtain ⟨b, off, e, hc⟩ := h.at_ (fun _ => rfl) (by decide) hx
  exact ⟨b, off, e, by simpa using hc 0 _ rfl⟩

set_option maxRecDepth 100000 in
set_option maxHeartbeats 8000000 in
theorem oix_fb (p : Bl3 → Bool) (l : List Bl3) (A : Option Addr) (n c : Nat) (g : Nat) (w : World) (hs : SlO blC 3 w A n c l) (hbig : n ≤ 1048576)
    (HE : Hid (∀ (x : Bl3) W, Below w.heap.size w W → Calls Try.prog 75 #[.agg (blA x), .pointer (some ⟨g, 0, none⟩)] W fun e w' => e = .returned (.bool (p x)) ∧ Below W.heap.size W w')) :
    Calls Try.prog 74 #[.slice A n c, .func (.func 75) #[] #[.pointer (some ⟨g, 0, none⟩)]] w fun e w' => e = .returned (.int .i64 (idxL p l)) ∧ Below w.heap.size w w' := by
  try unfold blA at HE
  try unfold stA13 at HE
  have HN : Hid (l.length = n) := Lib.hid hs.len13
  have HW := Lib.hid hs
  clear hs
  have x0 : (0 : Int) ≤ n := by omega
  obtain ⟨R, hR⟩ : ∃ R, idxL p l = R := ⟨_, rfl⟩
  have HR := Lib.hid hR
  rw [hR]
  clear hR
  go_enter Try.func74, Try.ntmps74
  go_wp2
  go_loopg [8] n (fun kk v wl => ∃ j : Nat, j ≤ n ∧ n - j ≤ kk ∧ v = .int .i64 j ∧ Hid (∀ i x, i < j → l[i]? = some x → p x = false) ∧ Hid (Below w.heap.size w wl))
  case atStart => exact ⟨0, by omega, by omega, rfl, Lib.hid fun i x h => absurd h (by omega), Lib.hid (Below.refl _ _)⟩
  case round =>
    obtain ⟨j, hj, hjk, rfl, HNO, HBL⟩ := hrel
    by_cases hlt : j < n
    · obtain ⟨x, hx⟩ : ∃ x, l[j]? = some x := ⟨_, List.getElem?_eq_getElem (by rw [HN.out]; omega)⟩
      obtain ⟨bk, off, rfl, d0, d1, d2⟩ := (HW.out.under HBL.out).bal hx
      have HX := Lib.hid hx
      have y0 : (0 : Int) ≤ j := by omega
      have y1 : (j : Int) < n := by omega
      have HC := Lib.hid (HE.out x wr HBL.out)
      clear hx
      generalize hb : p x = b at *
      have HBE := Lib.hid hb
      clear hb
      cases b with
      | true =>
        have HF : Hid (R = j) := Lib.hid (by rw [← HR.out]; exact idx_hit HX.out HBE.out HNO.out)
        go_upto_region 4 with fail
        go_wp2_with fail
        refine HC.out.mono ?_
        rintro e w1 ⟨rfl, hb1⟩
        have HB1 := Lib.hid (HBL.out.trans (hb1.mono HBL.out.size))
        clear hb1 d0 d1 d2 HBE HNO
        go_wp2
        go_ret
        exact ⟨by rw [HF.out]; rfl, HB1.out⟩
      | false =>
        go_upto_region 4 with fail
        go_wp2_with fail
        refine HC.out.mono ?_
        rintro e w1 ⟨rfl, hb1⟩
        have HB1 := Lib.hid (HBL.out.trans (hb1.mono HBL.out.size))
        have HN2 : Hid (∀ i y, i < j + 1 → l[i]? = some y → p y = false) := Lib.hid fun i y hi hy => by
          by_cases h : i = j
          · subst h; rw [HX.out] at hy; cases hy; exact HBE.out
          · exact HNO.out i y (by omega) hy
        clear hb1 d0 d1 d2 HBE HNO
        go_wp2
        go_roundg (gk - 1)
        case measure => omega
        case rel => exact ⟨j + 1, by omega, by omega, by go_num, HN2, HB1⟩
    · have y1 : ¬ (j : Int) < n := by omega
      have HF : Hid (R = -1) := Lib.hid (by rw [← HR.out]; exact idx_miss fun i y hi hy => HNO.out i y (by have := HN.out; omega) hy)
      go_wp2
      go_ret
      exact ⟨by rw [HF.out]; rfl, HBL.out⟩

set_option maxRecDepth 100000 in
set_option maxHeartbeats 8000000 in
theorem oix_hb (p : Bl3 → Bool) (l : List Bl3) (A : Option Addr) (n c : Nat) (g : Nat) (w : World) (hs : SlO blC 3 w A n c l) (hbig : n ≤ 1048576)
    (HE : Hid (∀ (x : Bl3) W, Below w.heap.size w W → Calls Try.prog 79 #[.agg (blA x), .pointer (some ⟨g, 0, none⟩)] W fun e w' => e = .returned (.bool (p x)) ∧ Below W.heap.size W w')) :
    Calls Try.prog 74 #[.slice A n c, .func (.func 79) #[] #[.pointer (some ⟨g, 0, none⟩)]] w fun e w' => e = .returned (.int .i64 (idxL p l)) ∧ Below w.heap.size w w' := by
  try unfold blA at HE
  try unfold stA13 at HE
  have HN : Hid (l.length = n) := Lib.hid hs.len13
  have HW := Lib.hid hs
  clear hs
  have x0 : (0 : Int) ≤ n := by omega
  obtain ⟨R, hR⟩ : ∃ R, idxL p l = R := ⟨_, rfl⟩
  have HR := Lib.hid hR
  rw [hR]
  clear hR
  go_enter Try.func74, Try.ntmps74
  go_wp2
  go_loopg [8] n (fun kk v wl => ∃ j : Nat, j ≤ n ∧ n - j ≤ kk ∧ v = .int .i64 j ∧ Hid (∀ i x, i < j → l[i]? = some x → p x = false) ∧ Hid (Below w.heap.size w wl))
  case atStart => exact ⟨0, by omega, by omega, rfl, Lib.hid fun i x h => absurd h (by omega), Lib.hid (Below.refl _ _)⟩
  case round =>
    obtain ⟨j, hj, hjk, rfl, HNO, HBL⟩ := hrel
    by_cases hlt : j < n
    · obtain ⟨x, hx⟩ : ∃ x, l[j]? = some x := ⟨_, List.getElem?_eq_getElem (by rw [HN.out]; omega)⟩
      obtain ⟨bk, off, rfl, d0, d1, d2⟩ := (HW.out.under HBL.out).bal hx
      have HX := Lib.hid hx
      have y0 : (0 : Int) ≤ j := by omega
      have y1 : (j : Int) < n := by omega
      have HC := Lib.hid (HE.out x wr HBL.out)
      clear hx
      generalize hb : p x = b at *
      have HBE := Lib.hid hb
      clear hb
      cases b with
      | true =>
        have HF : Hid (R = j) := Lib.hid (by rw [← HR.out]; exact idx_hit HX.out HBE.out HNO.out)
        go_upto_region 4 with fail
        go_wp2_with fail
        refine HC.out.mono ?_
        rintro e w1 ⟨rfl, hb1⟩
        have HB1 := Lib.hid (HBL.out.trans (hb1.mono HBL.out.size))
        clear hb1 d0 d1 d2 HBE HNO
        go_wp2
        go_ret
        exact ⟨by rw [HF.out]; rfl, HB1.out⟩
      | false =>
        go_upto_region 4 with fail
        go_wp2_with fail
        refine HC.out.mono ?_
        rintro e w1 ⟨rfl, hb1⟩
        have HB1 := Lib.hid (HBL.out.trans (hb1.mono HBL.out.size))
        have HN2 : Hid (∀ i y, i < j + 1 → l[i]? = some y → p y = false) := Lib.hid fun i y hi hy => by
          by_cases h : i = j
          · subst h; rw [HX.out] at hy; cases hy; exact HBE.out
          · exact HNO.out i y (by omega) hy
        clear hb1 d0 d1 d2 HBE HNO
        go_wp2
        go_roundg (gk - 1)
        case measure => omega
        case rel => exact ⟨j + 1, by omega, by omega, by go_num, HN2, HB1⟩
    · have y1 : ¬ (j : Int) < n := by omega
      have HF : Hid (R = -1) := Lib.hid (by rw [← HR.out]; exact idx_miss fun i y hi hy => HNO.out i y (by have := HN.out; omega) hy)
      go_wp2
      go_ret
      exact ⟨by rw [HF.out]; rfl, HBL.out⟩

set_option maxRecDepth 100000 in
set_option maxHeartbeats 8000000 in
theorem oix_fr (p : Rt3 → Bool) (l : List Rt3) (A : Option Addr) (n c : Nat) (g : Nat) (w : World) (hs : RtsR w A n c l) (hbig : n ≤ 1048576)
    (HE : Hid (∀ (x : Rt3) (PA : Option Addr) (pc : Nat) W, Below w.heap.size w W → Calls Try.prog 81 #[.agg #[.int .i64 x.id, .slice PA x.path.length pc, .int .i64 x.gap, .int .i64 x.timer], .pointer (some ⟨g, 0, none⟩)] W fun e w' => e = .returned (.bool (p x)) ∧ Below W.heap.size W w')) :
    Calls Try.prog 80 #[.slice A n c, .func (.func 81) #[] #[.pointer (some ⟨g, 0, none⟩)]] w fun e w' => e = .returned (.int .i64 (idxL p l)) ∧ Below w.heap.size w w' := by
  try unfold blA at HE
  try unfold stA13 at HE
  have HN : Hid (l.length = n) := Lib.hid hs.len13
  have HW := Lib.hid hs
  clear hs
  have x0 : (0 : Int) ≤ n := by omega
  obtain ⟨R, hR⟩ : ∃ R, idxL p l = R := ⟨_, rfl⟩
  have HR := Lib.hid hR
  rw [hR]
  clear hR
  go_enter Try.func80, Try.ntmps80
  go_wp2
  go_loopg [8] n (fun kk v wl => ∃ j : Nat, j ≤ n ∧ n - j ≤ kk ∧ v = .int .i64 j ∧ Hid (∀ i x, i < j → l[i]? = some x → p x = false) ∧ Hid (Below w.heap.size w wl))
  case atStart => exact ⟨0, by omega, by omega, rfl, Lib.hid fun i x h => absurd h (by omega), Lib.hid (Below.refl _ _)⟩
  case round =>
    obtain ⟨j, hj, hjk, rfl, HNO, HBL⟩ := hrel
    by_cases hlt : j < n
    · obtain ⟨x, hx⟩ : ∃ x, l[j]? = some x := ⟨_, List.getElem?_eq_getElem (by rw [HN.out]; omega)⟩
      obtain ⟨bk, off, PA, pc, rfl, _, d0, d1, d2, d3⟩ := (HW.out.under HBL.out).at_ hx
      have HX := Lib.hid hx
      have y0 : (0 : Int) ≤ j := by omega
      have y1 : (j : Int) < n := by omega
      have HC := Lib.hid (HE.out x PA pc wr HBL.out)
      clear hx
      generalize hb : p x = b at *
      have HBE := Lib.hid hb
      clear hb
      cases b with
      | true =>
        have HF : Hid (R = j) := Lib.hid (by rw [← HR.out]; exact idx_hit HX.out HBE.out HNO.out)
        go_upto_region 4 with fail
        go_wp2_with fail
        refine HC.out.mono ?_
        rintro e w1 ⟨rfl, hb1⟩
        have HB1 := Lib.hid (HBL.out.trans (hb1.mono HBL.out.size))
        clear hb1 d0 d1 d2 d3 HBE HNO
        go_wp2
        go_ret
        exact ⟨by rw [HF.out]; rfl, HB1.out⟩
      | false =>
        go_upto_region 4 with fail
        go_wp2_with fail
        refine HC.out.mono ?_
        rintro e w1 ⟨rfl, hb1⟩
        have HB1 := Lib.hid (HBL.out.trans (hb1.mono HBL.out.size))
        have HN2 : Hid (∀ i y, i < j + 1 → l[i]? = some y → p y = false) := Lib.hid fun i y hi hy => by
          by_cases h : i = j
          · subst h; rw [HX.out] at hy; cases hy; exact HBE.out
          · exact HNO.out i y (by omega) hy
        clear hb1 d0 d1 d2 d3 HBE HNO
        go_wp2
        go_roundg (gk - 1)
        case measure => omega
        case rel => exact ⟨j + 1, by omega, by omega, by go_num, HN2, HB1⟩
    · have y1 : ¬ (j : Int) < n := by omega
      have HF : Hid (R = -1) := Lib.hid (by rw [← HR.out]; exact idx_miss fun i y hi hy => HNO.out i y (by have := HN.out; omega) hy)
      go_wp2
      go_ret
      exact ⟨by rw [HF.out]; rfl, HBL.out⟩

set_option maxRecDepth 100000 in
set_option maxHeartbeats 8000000 in
theorem oix_ee (p : St3 → Bool) (l : List St3) (A : Option Addr) (n c : Nat) (g : Nat) (w : World) (hs : SlO stC 2 w A n c l) (hbig : n ≤ 1048576)
    (HE : Hid (∀ (x : St3) W, Below w.heap.size w W → Calls Try.prog 82 #[.agg (stA13 x), .pointer (some ⟨g, 0, none⟩)] W fun e w' => e = .returned (.bool (p x)) ∧ Below W.heap.size W w')) :
    Calls Try.prog 95 #[.slice A n c, .func (.func 82) #[] #[.pointer (some ⟨g, 0, none⟩)]] w fun e w' => e = .returned (.int .i64 (idxL p l)) ∧ Below w.heap.size w w' := by
  try unfold blA at HE
  try unfold stA13 at HE
  have HN : Hid (l.length = n) := Lib.hid hs.len13
  have HW := Lib.hid hs
  clear hs
  have x0 : (0 : Int) ≤ n := by omega
  obtain ⟨R, hR⟩ : ∃ R, idxL p l = R := ⟨_, rfl⟩
  have HR := Lib.hid hR
  rw [hR]
  clear hR
  go_enter Try.func95, Try.ntmps95
  go_wp2
  go_loopg [8] n (fun kk v wl => ∃ j : Nat, j ≤ n ∧ n - j ≤ kk ∧ v = .int .i64 j ∧ Hid (∀ i x, i < j → l[i]? = some x → p x = false) ∧ Hid (Below w.heap.size w wl))
  case atStart => exact ⟨0, by omega, by omega, rfl, Lib.hid fun i x h => absurd h (by omega), Lib.hid (Below.refl _ _)⟩
  case round =>
    obtain ⟨j, hj, hjk, rfl, HNO, HBL⟩ := hrel
    by_cases hlt : j < n
    · obtain ⟨x, hx⟩ : ∃ x, l[j]? = some x := ⟨_, List.getElem?_eq_getElem (by rw [HN.out]; omega)⟩
      obtain ⟨bk, off, rfl, d0, d1⟩ := (HW.out.under HBL.out).step hx
      have HX := Lib.hid hx
      have y0 : (0 : Int) ≤ j := by omega
      have y1 : (j : Int) < n := by omega
      have HC := Lib.hid (HE.out x wr HBL.out)
      clear hx
      generalize hb : p x = b at *
      have HBE := Lib.hid hb
      clear hb
      cases b with
      | true =>
        have HF : Hid (R = j) := Lib.hid (by rw [← HR.out]; exact idx_hit HX.out HBE.out HNO.out)
        go_upto_region 4 with fail
        go_wp2_with fail
        refine HC.out.mono ?_
        rintro e w1 ⟨rfl, hb1⟩
        have HB1 := Lib.hid (HBL.out.trans (hb1.mono HBL.out.size))
        clear hb1 d0 d1 HBE HNO
        go_wp2
        go_ret
        exact ⟨by rw [HF.out]; rfl, HB1.out⟩
      | false =>
        go_upto_region 4 with fail
        go_wp2_with fail
        refine HC.out.mono ?_
        rintro e w1 ⟨rfl, hb1⟩
        have HB1 := Lib.hid (HBL.out.trans (hb1.mono HBL.out.size))
        have HN2 : Hid (∀ i y, i < j + 1 → l[i]? = some y → p y = false) := Lib.hid fun i y hi hy => by
          by_cases h : i = j
          · subst h; rw [HX.out] at hy; cases hy; exact HBE.out
          · exact HNO.out i y (by omega) hy
        clear hb1 d0 d1 HBE HNO
        go_wp2
        go_roundg (gk - 1)
        case measure => omega
        case rel => exact ⟨j + 1, by omega, by omega, by go_num, HN2, HB1⟩
    · have y1 : ¬ (j : Int) < n := by omega
      have HF : Hid (R = -1) := Lib.hid (by rw [← HR.out]; exact idx_miss fun i y hi hy => HNO.out i y (by have := HN.out; omega) hy)
      go_wp2
      go_ret
      exact ⟨by rw [HF.out]; rfl, HBL.out⟩

set_option maxRecDepth 100000 in
set_option maxHeartbeats 8000000 in
theorem oix_re (p : St3 → Bool) (l : List St3) (A : Option Addr) (n c : Nat) (g : Nat) (w : World) (hs : SlO stC 2 w A n c l) (hbig : n ≤ 1048576)
    (HE : Hid (∀ (x : St3) W, Below w.heap.size w W → Calls Try.prog 77 #[.agg (stA13 x), .pointer (some ⟨g, 0, none⟩)] W fun e w' => e = .returned (.bool (p x)) ∧ Below W.heap.size W w')) :
    Calls Try.prog 95 #[.slice A n c, .func (.func 77) #[] #[.pointer (some ⟨g, 0, none⟩)]] w fun e w' => e = .returned (.int .i64 (idxL p l)) ∧ Below w.heap.size w w' := by
  try unfold blA at HE
  try unfold stA13 at HE
  have HN : Hid (l.length = n) := Lib.hid hs.len13
  have HW := Lib.hid hs
  clear hs
  have x0 : (0 : Int) ≤ n := by omega
  obtain ⟨R, hR⟩ : ∃ R, idxL p l = R := ⟨_, rfl⟩
  have HR := Lib.hid hR
  rw [hR]
  clear hR
  go_enter Try.func95, Try.ntmps95
  go_wp2
  go_loopg [8] n (fun kk v wl => ∃ j : Nat, j ≤ n ∧ n - j ≤ kk ∧ v = .int .i64 j ∧ Hid (∀ i x, i < j → l[i]? = some x → p x = false) ∧ Hid (Below w.heap.size w wl))
  case atStart => exact ⟨0, by omega, by omega, rfl, Lib.hid fun i x h => absurd h (by omega), Lib.hid (Below.refl _ _)⟩
  case round =>
    obtain ⟨j, hj, hjk, rfl, HNO, HBL⟩ := hrel
    by_cases hlt : j < n
    · obtain ⟨x, hx⟩ : ∃ x, l[j]? = some x := ⟨_, List.getElem?_eq_getElem (by rw [HN.out]; omega)⟩
      obtain ⟨bk, off, rfl, d0, d1⟩ := (HW.out.under HBL.out).step hx
      have HX := Lib.hid hx
      have y0 : (0 : Int) ≤ j := by omega
      have y1 : (j : Int) < n := by omega
      have HC := Lib.hid (HE.out x wr HBL.out)
      clear hx
      generalize hb : p x = b at *
      have HBE := Lib.hid hb
      clear hb
      cases b with
      | true =>
        have HF : Hid (R = j) := Lib.hid (by rw [← HR.out]; exact idx_hit HX.out HBE.out HNO.out)
        go_upto_region 4 with fail
        go_wp2_with fail
        refine HC.out.mono ?_
        rintro e w1 ⟨rfl, hb1⟩
        have HB1 := Lib.hid (HBL.out.trans (hb1.mono HBL.out.size))
        clear hb1 d0 d1 HBE HNO
        go_wp2
        go_ret
        exact ⟨by rw [HF.out]; rfl, HB1.out⟩
      | false =>
        go_upto_region 4 with fail
        go_wp2_with fail
        refine HC.out.mono ?_
        rintro e w1 ⟨rfl, hb1⟩
        have HB1 := Lib.hid (HBL.out.trans (hb1.mono HBL.out.size))
        have HN2 : Hid (∀ i y, i < j + 1 → l[i]? = some y → p y = false) := Lib.hid fun i y hi hy => by
          by_cases h : i = j
          · subst h; rw [HX.out] at hy; cases hy; exact HBE.out
          · exact HNO.out i y (by omega) hy
        clear hb1 d0 d1 HBE HNO
        go_wp2
        go_roundg (gk - 1)
        case measure => omega
        case rel => exact ⟨j + 1, by omega, by omega, by go_num, HN2, HB1⟩
    · have y1 : ¬ (j : Int) < n := by omega
      have HF : Hid (R = -1) := Lib.hid (by rw [← HR.out]; exact idx_miss fun i y hi hy => HNO.out i y (by have := HN.out; omega) hy)
      go_wp2
      go_ret
      exact ⟨by rw [HF.out]; rfl, HBL.out⟩

set_option maxRecDepth 100000 in
set_option maxHeartbeats 8000000 in
theorem oix_ck (p : Int → Bool) (l : List Int) (A : Option Addr) (n c : Nat) (w : World) (hs : SlO inC 1 w A n c l) (hbig : n ≤ 1048576)
    (HE : Hid (∀ (x : Int) W, Below w.heap.size w W → Calls Try.prog 30 #[.int .i64 x] W fun e w' => e = .returned (.bool (p x)) ∧ Below W.heap.size W w')) :
    Calls Try.prog 50 #[.slice A n c, .func (.func 30) #[] #[]] w fun e w' => e = .returned (.int .i64 (idxL p l)) ∧ Below w.heap.size w w' := by
  try unfold blA at HE
  try unfold stA13 at HE
  have HN : Hid (l.length = n) := Lib.hid hs.len13
  have HW := Lib.hid hs
  clear hs
  have x0 : (0 : Int) ≤ n := by omega
  obtain ⟨R, hR⟩ : ∃ R, idxL p l = R := ⟨_, rfl⟩
  have HR := Lib.hid hR
  rw [hR]
  clear hR
  go_enter Try.func50, Try.ntmps50
  go_wp2
  go_loopg [8] n (fun kk v wl => ∃ j : Nat, j ≤ n ∧ n - j ≤ kk ∧ v = .int .i64 j ∧ Hid (∀ i x, i < j → l[i]? = some x → p x = false) ∧ Hid (Below w.heap.size w wl))
  case atStart => exact ⟨0, by omega, by omega, rfl, Lib.hid fun i x h => absurd h (by omega), Lib.hid (Below.refl _ _)⟩
  case round =>
    obtain ⟨j, hj, hjk, rfl, HNO, HBL⟩ := hrel
    by_cases hlt : j < n
    · obtain ⟨x, hx⟩ : ∃ x, l[j]? = some x := ⟨_, List.getElem?_eq_getElem (by rw [HN.out]; omega)⟩
      obtain ⟨bk, off, rfl, d0⟩ := (HW.out.under HBL.out).int13 hx
      have HX := Lib.hid hx
      have y0 : (0 : Int) ≤ j := by omega
      have y1 : (j : Int) < n := by omega
      have HC := Lib.hid (HE.out x wr HBL.out)
      clear hx
      generalize hb : p x = b at *
      have HBE := Lib.hid hb
      clear hb
      cases b with
      | true =>
        have HF : Hid (R = j) := Lib.hid (by rw [← HR.out]; exact idx_hit HX.out HBE.out HNO.out)
        go_upto_region 4 with fail
        go_wp2_with fail
        refine HC.out.mono ?_
        rintro e w1 ⟨rfl, hb1⟩
        have HB1 := Lib.hid (HBL.out.trans (hb1.mono HBL.out.size))
        clear hb1 d0 HBE HNO
        go_wp2
        go_ret
        exact ⟨by rw [HF.out]; rfl, HB1.out⟩
      | false =>
        go_upto_region 4 with fail
        go_wp2_with fail
        refine HC.out.mono ?_
        rintro e w1 ⟨rfl, hb1⟩
        have HB1 := Lib.hid (HBL.out.trans (hb1.mono HBL.out.size))
        have HN2 : Hid (∀ i y, i < j + 1 → l[i]? = some y → p y = false) := Lib.hid fun i y hi hy => by
          by_cases h : i = j
          · subst h; rw [HX.out] at hy; cases hy; exact HBE.out
          · exact HNO.out i y (by omega) hy
        clear hb1 d0 HBE HNO
        go_wp2
        go_roundg (gk - 1)
        case measure => omega
        case rel => exact ⟨j + 1, by omega, by omega, by go_num, HN2, HB1⟩
    · have y1 : ¬ (j : Int) < n := by omega
      have HF : Hid (R = -1) := Lib.hid (by rw [← HR.out]; exact idx_miss fun i y hi hy => HNO.out i y (by have := HN.out; omega) hy)
      go_wp2
      go_ret
      exact ⟨by rw [HF.out]; rfl, HBL.out⟩

set_option maxRecDepth 100000 in
set_option maxHeartbeats 8000000 in
theorem oct_hb (p : Bl3 → Bool) (l : List Bl3) (A : Option Addr) (n c : Nat) (g : Nat) (w : World) (hs : SlO blC 3 w A n c l) (hbig : n ≤ 1048576)
    (HE : Hid (∀ (x : Bl3) W, Below w.heap.size w W → Calls Try.prog 79 #[.agg (blA x), .pointer (some ⟨g, 0, none⟩)] W fun e w' => e = .returned (.bool (p x)) ∧ Below W.heap.size W w')) :
    Calls Try.prog 78 #[.slice A n c, .func (.func 79) #[] #[.pointer (some ⟨g, 0, none⟩)]] w fun e w' => e = .returned (.bool (l.any p)) ∧ Below w.heap.size w w' := by
  have H := Lib.hid (oix_hb p l A n c g w hs hbig HE)
  clear hs HE
  rw [← idx_nonneg]
  generalize idxL p l = R at *
  go_enter Try.func78, Try.ntmps78
  go_wp2_with fail
  refine H.out.mono ?_
  rintro e w1 ⟨rfl, hb1⟩
  have HB1 := Lib.hid hb1
  clear hb1 H
  go_wp2
  go_ret
  exact ⟨rfl, HB1.out⟩

set_option maxRecDepth 100000 in
set_option maxHeartbeats 8000000 in
theorem oct_ee (p : St3 → Bool) (l : List St3) (A : Option Addr) (n c : Nat) (g : Nat) (w : World) (hs : SlO stC 2 w A n c l) (hbig : n ≤ 1048576)
    (HE : Hid (∀ (x : St3) W, Below w.heap.size w W → Calls Try.prog 82 #[.agg (stA13 x), .pointer (some ⟨g, 0, none⟩)] W fun e w' => e = .returned (.bool (p x)) ∧ Below W.heap.size W w')) :
    Calls Try.prog 76 #[.slice A n c, .func (.func 82) #[] #[.pointer (some ⟨g, 0, none⟩)]] w fun e w' => e = .returned (.bool (l.any p)) ∧ Below w.heap.size w w' := by
  have H := Lib.hid (oix_ee p l A n c g w hs hbig HE)
  clear hs HE
  rw [← idx_nonneg]
  generalize idxL p l = R at *
  go_enter Try.func76, Try.ntmps76
  go_wp2_with fail
  refine H.out.mono ?_
  rintro e w1 ⟨rfl, hb1⟩
  have HB1 := Lib.hid hb1
  clear hb1 H
  go_wp2
  go_ret
  exact ⟨rfl, HB1.out⟩

set_option maxRecDepth 100000 in
set_option maxHeartbeats 8000000 in
theorem oct_re (p : St3 → Bool) (l : List St3) (A : Option Addr) (n c : Nat) (g : Nat) (w : World) (hs : SlO stC 2 w A n c l) (hbig : n ≤ 1048576)
    (HE : Hid (∀ (x : St3) W, Below w.heap.size w W → Calls Try.prog 77 #[.agg (stA13 x), .pointer (some ⟨g, 0, none⟩)] W fun e w' => e = .returned (.bool (p x)) ∧ Below W.heap.size W w')) :
    Calls Try.prog 76 #[.slice A n c, .func (.func 77) #[] #[.pointer (some ⟨g, 0, none⟩)]] w fun e w' => e = .returned (.bool (l.any p)) ∧ Below w.heap.size w w' := by
  have H := Lib.hid (oix_re p l A n c g w hs hbig HE)
  clear hs HE
  rw [← idx_nonneg]
  generalize idxL p l = R at *
  go_enter Try.func76, Try.ntmps76
  go_wp2_with fail
  refine H.out.mono ?_
  rintro e w1 ⟨rfl, hb1⟩
  have HB1 := Lib.hid hb1
  clear hb1 H
  go_wp2
  go_ret
  exact ⟨rfl, HB1.out⟩

set_option maxRecDepth 100000 in
set_option maxHeartbeats 8000000 in
theorem oct_ck (p : Int → Bool) (l : List Int) (A : Option Addr) (n c : Nat) (w : World) (hs : SlO inC 1 w A n c l) (hbig : n ≤ 1048576)
    (HE : Hid (∀ (x : Int) W, Below w.heap.size w W → Calls Try.prog 30 #[.int .i64 x] W fun e w' => e = .returned (.bool (p x)) ∧ Below W.heap.size W w')) :
    Calls Try.prog 29 #[.slice A n c, .func (.func 30) #[] #[]] w fun e w' => e = .returned (.bool (l.any p)) ∧ Below w.heap.size w w' := by
  have H := Lib.hid (oix_ck p l A n c w hs hbig HE)
  clear hs HE
  rw [← idx_nonneg]
  generalize idxL p l = R at *
  go_enter Try.func29, Try.ntmps29
  go_wp2_with fail
  refine H.out.mono ?_
  rintro e w1 ⟨rfl, hb1⟩
  have HB1 := Lib.hid hb1
  clear hb1 H
  go_wp2
  go_ret
  exact ⟨rfl, HB1.out⟩

set_option maxRecDepth 100000 in
set_option maxHeartbeats 8000000 in
theorem otfindbal_any (t : Tp3) (a : TpA) (id : Int) (w : World) (ht : TopR w t a) (hl : t.bals.length ≤ 1048576) :
    Calls Try.prog 54 #[.agg (tpC t a), .int .i64 id] w fun e w' => e = .returned (.int .i64 (idxL (fun b : Bl3 => b.id == id) t.bals)) ∧ Below w.heap.size w w' := by
  obtain ⟨wa, hwa⟩ : ∃ wa, (w.alloc (.cells (tpC t a) 27)).alloc (.cells #[.int .i64 id] 3) = wa := ⟨_, rfl⟩
  have hbwa : Below w.heap.size w wa := by rw [← hwa]; exact ((Below.refl _ _).alloc (Nat.le_refl _) _).alloc (by simp) _
  have h0 : Has wa (w.heap.size) 27 (tpC t a) := by rw [← hwa]; exact ((Has.made _ _ _).beside _)
  have h1 : Has wa (w.heap.size + 1) 3 #[.int .i64 id] := by rw [← hwa]; exact (has_at11 (by simp))
  have HWA := Lib.hid hwa; have HBWA := Lib.hid hbwa
  have c2 : wa.cell? ⟨w.heap.size, 2, none⟩ = some (.slice a.ab t.bals.length a.cb) := (h0).cell 2
  have n0 : wa.cell? ⟨w.heap.size + 1, 0, none⟩ = some (.int .i64 id) := h1.cell 0
  have H := Lib.hid (oix_fb (fun b : Bl3 => b.id == id) t.bals a.ab t.bals.length a.cb (w.heap.size + 1) wa (ht.under hbwa).b hl (Lib.hid fun x W hW => otfb_any x id (w.heap.size + 1) W ((hW.cell (cell_block n0)).trans n0)))
  clear hwa hbwa h0 h1 ht
  generalize idxL (fun b : Bl3 => b.id == id) t.bals = R at *
  unfold tpC at *
  go_enter Try.func54, Try.ntmps54
  go_upto_region 1 with fail
  rw [HWA.out]
  clear HWA
  go_wp2_with fail
  refine H.out.mono ?_
  rintro e w1 ⟨rfl, hb1⟩
  have HB1 := Lib.hid (HBWA.out.trans (hb1.mono HBWA.out.size))
  clear hb1 c2 n0 H HBWA
  go_wp2
  go_ret
  exact ⟨rfl, HB1.out⟩

set_option maxRecDepth 100000 in
set_option maxHeartbeats 8000000 in
theorem otfindroute_any (t : Tp3) (a : TpA) (id : Int) (w : World) (ht : TopR w t a) (hl : t.routes.length ≤ 1048576) :
    Calls Try.prog 57 #[.agg (tpC t a), .int .i64 id] w fun e w' => e = .returned (.int .i64 (idxL (fun r : Rt3 => r.id == id) t.routes)) ∧ Below w.heap.size w w' := by
  obtain ⟨wa, hwa⟩ : ∃ wa, (w.alloc (.cells (tpC t a) 27)).alloc (.cells #[.int .i64 id] 3) = wa := ⟨_, rfl⟩
  have hbwa : Below w.heap.size w wa := by rw [← hwa]; exact ((Below.refl _ _).alloc (Nat.le_refl _) _).alloc (by simp) _
  have h0 : Has wa (w.heap.size) 27 (tpC t a) := by rw [← hwa]; exact ((Has.made _ _ _).beside _)
  have h1 : Has wa (w.heap.size + 1) 3 #[.int .i64 id] := by rw [← hwa]; exact (has_at11 (by simp))
  have HWA := Lib.hid hwa; have HBWA := Lib.hid hbwa
  have c3 : wa.cell? ⟨w.heap.size, 3, none⟩ = some (.slice a.ar t.routes.length a.cr) := (h0).cell 3
  have n0 : wa.cell? ⟨w.heap.size + 1, 0, none⟩ = some (.int .i64 id) := h1.cell 0
  have H := Lib.hid (oix_fr (fun r : Rt3 => r.id == id) t.routes a.ar t.routes.length a.cr (w.heap.size + 1) wa (ht.under hbwa).r hl (Lib.hid fun x PA pc W hW => otfr_any x (.slice PA x.path.length pc) id (w.heap.size + 1) W ((hW.cell (cell_block n0)).trans n0)))
  clear hwa hbwa h0 h1 ht
  generalize idxL (fun r : Rt3 => r.id == id) t.routes = R at *
  unfold tpC at *
  go_enter Try.func57, Try.ntmps57
  go_upto_region 1 with fail
  rw [HWA.out]
  clear HWA
  go_wp2_with fail
  refine H.out.mono ?_
  rintro e w1 ⟨rfl, hb1⟩
  have HB1 := Lib.hid (HBWA.out.trans (hb1.mono HBWA.out.size))
  clear hb1 c3 n0 H HBWA
  go_wp2
  go_ret
  exact ⟨rfl, HB1.out⟩

set_option maxRecDepth 100000 in
set_option maxHeartbeats 8000000 in
theorem otedges_any (t : Tp3) (a : TpA) (path : List St3) (A : Option Addr) (n c : Nat) (w : World) (hp : SlO stC 2 w A n c path) (hn : n ≤ 1048576) (hl : t.edges.length ≤ 100) :
    Calls Try.prog 62 #[.agg (tpC t a), .slice A n c] w fun e w' => e = .returned (.bool (path.all fun s => edgeB t s.edge)) ∧ Below w.heap.size w w' := by
  obtain ⟨wa, hwa⟩ : ∃ wa, w.alloc (.cells (tpC t a) 27) = wa := ⟨_, rfl⟩
  have hbwa : Below w.heap.size w wa := by rw [← hwa]; exact (Below.refl _ _).alloc (Nat.le_refl _) _
  have h0 : Has wa (w.heap.size) 27 (tpC t a) := by rw [← hwa]; exact (Has.made _ _ _)
  have HWA := Lib.hid hwa; have HBWA := Lib.hid hbwa
  have H := Lib.hid (oct_ee (fun s => !edgeB t s.edge) path A n c w.heap.size wa (hp.under hbwa) hn (Lib.hid fun x W hW => otee_any t a x w.heap.size W (h0.under hW h0.lt) hl))
  have he : (path.all fun s => edgeB t s.edge) = !(path.any fun s => !edgeB t s.edge) := by rw [List.all_eq_not_any_not]
  rw [he]
  clear hwa hbwa h0 hp he
  generalize (path.any fun s => !edgeB t s.edge) = R at *
  unfold tpC at *
  go_enter Try.func62, Try.ntmps62
  go_upto_region 1 with fail
  rw [HWA.out]
  clear HWA
  go_wp2_with fail
  refine H.out.mono ?_
  rintro e w1 ⟨rfl, hb1⟩
  have HB1 := Lib.hid (HBWA.out.trans (hb1.mono HBWA.out.size))
  clear hb1 H HBWA
  go_wp2
  go_ret
  exact ⟨rfl, HB1.out⟩

end Go.Proofs.Yteioefgckigbcaa
