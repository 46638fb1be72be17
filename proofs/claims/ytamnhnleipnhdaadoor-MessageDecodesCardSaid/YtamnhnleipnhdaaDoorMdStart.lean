/-
  message.start.
-/
import Derived.Test.YtamnhnleipnhdaaDoorMgEnc

import Derived.Test.YtamnhnleipnhdaaDoorMgL


import Derived.Test.YtamnhnleipnhdaaDoorMgB

import Derived.Deep.RegionHeld3

namespace Go.Proofs.YtamnhnleipnhdaaDoor

open Go.RowKit

open BitsM

open Go.Great

theorem get_at (gr : Nat) (xs : List Nat) (p k : Nat) (w : World) (hr : IsR w gr xs p) (h1 : 1 ≤ k) (h2 : k ≤ 32) (h : ¬ ((bitsOf xs).drop p).length < k) :
    Calls Tryd.prog 44 #[.pointer (some ⟨gr, 0, none⟩), .int .i64 (k : Nat)] w fun e w' => e = .returned (.tuple #[.int .i64 (num (((bitsOf xs).drop p).take k) : Nat), .int .i64 0]) ∧ IsR w' gr xs (p + k) ∧ w.grownBy w' (some gr) := by
  rw [List.length_drop, bitsOf_length] at h
  have e : ((bitsOf xs).drop p).take k = bitsFrom xs p k := by
    unfold bitsOf
    rw [bitsFrom_drop xs 0 p _ (by omega), Nat.zero_add, bitsFrom_take xs p k _ (by omega)]
  rw [e]
  exact get_fits gr xs p k h1 h2 w hr (by omega)
theorem get_no (gr : Nat) (xs : List Nat) (p k : Nat) (w : World) (hr : IsR w gr xs p) (h1 : 1 ≤ k) (h2 : k ≤ 32) (h : ((bitsOf xs).drop p).length < k) :
    Calls Tryd.prog 44 #[.pointer (some ⟨gr, 0, none⟩), .int .i64 (k : Nat)] w fun e w' => e = .returned (.tuple #[.int .i64 0, .int .i64 10]) ∧ IsR w' gr xs p ∧ w.grownBy w' (some gr) := by
  rw [List.length_drop, bitsOf_length] at h
  have hp : p ≤ 8 * xs.length := by obtain ⟨_, _, _, _, h, _⟩ := hr; exact h
  exact (get_short gr xs p k (by omega) (by omega) w hr (by omega)).mono fun e w' ⟨he, m, hm⟩ => ⟨he, hm ▸ isR_draws hr m, hm ▸ only_draws (only_refl _ _) m⟩

/-- What start answers: T is what startF says. -/
def StP (T : Int × List Int × List Bool × Int) (xs : List Nat) (gr B : Nat) (w : World) (e : Ending) (w' : World) : Prop :=
  ∃ O no co F nf cf P np cp id t a o A n c V, e = .returned (.tuple #[kdV O no co F nf cf P np cp, msgV id t a o A n c none 0 0, .int .i64 T.2.2.2]) ∧
    (T.2.2.2 = 0 → id = T.1 ∧ KdAt w' O no co F nf cf P np cp (mrow id) ∧ (∀ Q, (⟨id, t, a, o, V, Q⟩ : Msg) = mkMsg id T.2.1 Q) ∧ SlI w'.heap.size w' A n c V ∧ IsR w' gr xs (8 * xs.length - T.2.2.1.length) ∧ ∀ a', A = some a' → B ≤ a'.block) ∧ Below B w w'

theorem wd_below {B : Nat} {w w' : World} (h : Wd w) (hb : Below B w w') (hB : 0 < B) : Wd w' := fun i hi => by
  rw [hb.cell (p := ⟨0, i, none⟩) hB]; exact h i hi
theorem KdAt.grow {w w' : World} {g : Nat} {O : Option Addr} {no co : Nat} {F : Option Addr} {nf cf : Nat} {P : Option Addr} {np cp : Nat} {R : MRow} (h : KdAt w O no co F nf cf P np cp R) (hg : w.grownBy w' (some g)) (hne : ∀ a, (O = some a ∨ F = some a ∨ P = some a) → a.block ≠ g) : KdAt w' O no co F nf cf P np cp R :=
  ⟨h.own.grow hg (fun a ha _ e => hne a (.inl ha) (by injection e)), h.first.grow hg (fun a ha _ e => hne a (.inr (.inl ha)) (by injection e)), h.may.grow hg (fun a ha _ e => hne a (.inr (.inr ha)) (by injection e))⟩
theorem only_own {a b c : World} {g : Nat} {row : Option Nat} (h : a.grownBy b (some g)) (k : b.grownBy c row) (hr : ∀ x, row = some x → a.heap.size ≤ x) : a.grownBy c (some g) :=
  ⟨k.os.trans h.os, k.tape.trans h.tape, k.output.trans h.output, Nat.le_trans h.size k.size, fun i hi hne => (k.block i (Nat.lt_of_lt_of_le hi h.size) (fun e => by have := hr i e.symm; omega)).trans (h.block i hi hne)⟩
/-- An append to an own row of another type leaves a reader. -/
theorem isr_own {w w' : World} {gr p base n sz : Nat} {xs : List Nat} {e : TypeId} {v : Value} {vs : List Value} (h : IsR w gr xs p) (hg : w.grownBy w' v.ownBlock) (ho : w.ownsRow base e sz v n vs) (h1 : e ≠ 115) (h2 : e ≠ 5) : IsR w' gr xs p := by
  obtain ⟨g2, hn, ha, hb, r⟩ := h
  exact ⟨g2, hn, ha.grow hg (fun e => own_apart ho ha h1 e.symm), hb.grow hg (fun e => own_apart ho hb h2 e.symm), r⟩

/-- A struct stored whole, at a region that draws its order. -/
theorem step_store_row {P : Program} {ops : Array Oper} {o : Oper} {a : Act} {w : World} {K : Act → World → Prop} {Q : Exit → Act → World → Prop} {E : Prop} (hgd : o.guard = none) (ty : TypeId) (x y : Operand) (ho : o.op = .store ty x y)
    (hd : o.dst = none) (g : Nat) (cells : Array Value) (hx : a.eval x = .pointer (some ⟨g, 0, none⟩)) (hy : a.eval y = .agg cells)
    (t : TypeId) (old : Array Value) (hg : Hid (w.heap[g]? = some (.cells old t (0, 0)))) (hi : (P.info? ty).map (·.size) = some cells.size)
    (hold : old.size = cells.size) (h1 : cells.all (·.oneCell') = true)
    (h : K a (w.setRow g cells)) : if Region.wanted o (yielded ops a.tmps) = true then Oper.wp P o a w K Q else E := by
  have hw : Region.wanted o (yielded ops a.tmps) = true := by simp [Region.wanted, hgd]
  rw [if_pos hw]
  refine wp_store_row ty x y ho g cells hx hy t old hg.out hi hold h1 ?_
  rw [hd]
  exact h

set_option maxRecDepth 100000 in
set_option maxHeartbeats 8000000 in
theorem omg_start (gr B : Nat) (xs : List Nat) (w : World) (hr : IsR w gr xs 0) (hx : xs.length ≤ 1500) (hB : B ≤ gr) (hwd : Wd w) (hwl : 0 < B) :
    Calls Tryd.prog 43 #[.func (.func 44) #[.pointer (some ⟨gr, 0, none⟩)] #[], .int .i64 (xs.length : Nat)] w (StP (startF xs) xs gr B w) := by
  have hgl : gr < w.heap.size := by obtain ⟨g2, _, h, _⟩ := hr; exact h.lt
  obtain ⟨T, hT⟩ : ∃ T, startF xs = T := ⟨_, rfl⟩
  have hT2 := hT
  unfold startF at hT2
  rw [hT]
  have HT := Lib.hid hT2
  obtain ⟨w0, hw0⟩ : ∃ w0, (w.alloc (.cells #[.slice none 0 0, .slice none 0 0, .slice none 0 0] 42)).alloc (.cells #[.int .i64 0, .int .i64 0, .int .i64 0, .int .i64 0, .slice none 0 0, .slice none 0 0] 25) = w0 := ⟨_, rfl⟩
  have hkz : Has w0 w.heap.size 42 #[.slice none 0 0, .slice none 0 0, .slice none 0 0] := by rw [← hw0]; exact (Has.made w _ _).beside _
  have hmz : Has w0 (w.heap.size + 1) 25 #[.int .i64 0, .int .i64 0, .int .i64 0, .int .i64 0, .slice none 0 0, .slice none 0 0] := by rw [← hw0]; exact has_made_at (by simp)
  have hb0 : Below w.heap.size w w0 := by rw [← hw0]; exact ((Below.refl _ _).alloc (Nat.le_refl _) _).alloc (by simp) _
  have hs0 : w0.heap.size = w.heap.size + 2 := by rw [← hw0]; simp
  have hr0 := hr.under hb0 (Nat.le_refl _)
  have HKZ0 := Lib.hid hkz; have HMZ0 := Lib.hid hmz; have HB0 : Hid (Below B w w0) := Lib.hid (hb0.mono (by omega)); have HR0 := Lib.hid hr0; have HS0 := Lib.hid hs0
  have HW0 := Lib.hid (width_any 0 w0 (hwd.under hb0))
  rw [w0_8] at HW0
  have HWDB : Hid (∀ W, Below B w W → Wd W) := Lib.hid (fun W hW => wd_below hwd hW hwl)
  clear hT hT2 hr hkz hmz hb0 hr0 hwd hs0
  go_enter Tryd.func43, Tryd.ntmps43
  go_wp2_with fail
  clear hw0
  refine HW0.out.mono ?_
  rintro e w1 ⟨rfl, rfl⟩
  go_wp2_with fail
  by_cases h1 : (bitsOf xs).length < 8
  · have hTT : T = (0, [], [], 10) := by have h := HT.out; rw [if_pos h1] at h; exact h.symm
    subst hTT
    refine (get_no gr xs 0 8 w0 HR0.out (by omega) (by omega) (by rw [List.drop_zero]; exact h1)).mono ?_
    rintro e w2 ⟨rfl, hr2, hg2⟩
    have HG := Lib.hid hg2
    clear hr2 hg2 h1 HT HW0
    have hkw := HKZ0.out.grow HG.out (by intro e; injection e with e; omega)
    have hmw := HMZ0.out.grow HG.out (by intro e; injection e with e; omega)
    have HK1 : Hid ((w2).heap[w.heap.size]? = some (.cells #[.slice none 0 0, .slice none 0 0, .slice none 0 0] 42 (0, 0))) := Lib.hid hkw
    have HM1 : Hid (((w2).setRow w.heap.size #[.slice none 0 0, .slice none 0 0, .slice none 0 0]).heap[w.heap.size + 1]? = some (.cells #[.int .i64 0, .int .i64 0, .int .i64 0, .int .i64 0, .slice none 0 0, .slice none 0 0] 25 (0, 0))) := Lib.hid (has_setRow_other hmw (by omega) _)
    have HKF : Hid (Has (((w2).setRow w.heap.size #[.slice none 0 0, .slice none 0 0, .slice none 0 0]).setRow (w.heap.size + 1) #[.int .i64 0, .int .i64 0, .int .i64 0, .int .i64 0, .slice none 0 0, .slice none 0 0]) w.heap.size 42 #[.slice none 0 0, .slice none 0 0, .slice none 0 0]) := Lib.hid (has_setRow_other (has_setRow hkw _) (by omega) _)
    have HMF : Hid (Has (((w2).setRow w.heap.size #[.slice none 0 0, .slice none 0 0, .slice none 0 0]).setRow (w.heap.size + 1) #[.int .i64 0, .int .i64 0, .int .i64 0, .int .i64 0, .slice none 0 0, .slice none 0 0]) (w.heap.size + 1) 25 #[.int .i64 0, .int .i64 0, .int .i64 0, .int .i64 0, .slice none 0 0, .slice none 0 0]) := Lib.hid (has_setRow (show Has _ _ 25 _ from HM1.out) _)
    have HBF : Hid (Below B w (((w2).setRow w.heap.size #[.slice none 0 0, .slice none 0 0, .slice none 0 0]).setRow (w.heap.size + 1) #[.int .i64 0, .int .i64 0, .int .i64 0, .int .i64 0, .slice none 0 0, .slice none 0 0])) := Lib.hid (below_row (below_row (below_only HB0.out HG.out (by have := HS0.out; omega) hB) (by omega) _) (by omega) _)
    clear hkw hmw HG
    go_wp2_with (first
      | (with_reducible refine wpList_store_rowTo (o := ⟨none, _, _, _, _, _⟩) rfl 42 _ _ rfl rfl w.heap.size #[.slice none 0 0, .slice none 0 0, .slice none 0 0] rfl rfl 42 _ HK1.out (by kernel_rfl) (by kernel_rfl) (by kernel_rfl) ?_)
      | (with_reducible refine wpList_store_rowTo (o := ⟨none, _, _, _, _, _⟩) rfl 25 _ _ rfl rfl (w.heap.size + 1) #[.int .i64 0, .int .i64 0, .int .i64 0, .int .i64 0, .slice none 0 0, .slice none 0 0] rfl rfl 25 _ HM1.out (by kernel_rfl) (by kernel_rfl) (by kernel_rfl) ?_))
    refine bodyPost_ret (results_cell2_tmp rfl _ _ w.heap.size (w.heap.size + 1) 42 25 _ _ _ _ rfl HKF.out Tryd.underlying42 rfl (by kernel_rfl) rfl HMF.out Tryd.underlying25 rfl (by kernel_rfl)) rfl ?_
    unfold StP
    exact ⟨none, 0, 0, none, 0, 0, none, 0, 0, 0, 0, 0, 0, none, 0, 0, [], rfl, fun h => absurd h (by decide), HBF.out⟩
  · have hga := get_at gr xs 0 8 w0 HR0.out (by omega) (by omega) (by rw [List.drop_zero]; exact h1)
    rw [List.drop_zero] at hga
    have HT1 := HT.out
    rw [if_neg h1] at HT1
    have hn8 := num_lt ((bitsOf xs).take 8)
    rw [List.length_take, Nat.min_eq_left (by omega)] at hn8
    have hn8 : num ((bitsOf xs).take 8) < 256 := hn8
    obtain ⟨nid, hnid⟩ : ∃ nid, num ((bitsOf xs).take 8) = nid := ⟨_, rfl⟩
    rw [hnid] at hga HT1 hn8
    have HT2 := Lib.hid HT1
    refine hga.mono ?_
    rintro e w2 ⟨rfl, hr2, hg2⟩
    have HK2 := Lib.hid (kd_any2 nid w2)
    unfold KdPost2 at HK2
    have HG2 := Lib.hid hg2; have HR2 := Lib.hid hr2
    have hs2 := hg2.size
    have HS2 : Hid (gr < w2.heap.size) := Lib.hid (by have := HS0.out; omega)
    clear hga hr2 hg2 HT1 HT HW0 h1 hnid
    obtain ⟨id, hid⟩ : ∃ id : Int, (nid : Int) = id := ⟨_, rfl⟩
    rw [hid] at HK2 HT2
    have HID := Lib.hid hid
    unfold kdV at *
    go_wp2_with fail
    refine HK2.out.mono ?_
    rintro e w3 ⟨O, no, co, F, nf, cf, P, np, cp, rfl, hkd, hb3, hnew⟩
    obtain ⟨w4, hw4⟩ : ∃ w4, w3.alloc (.cells #[.slice O no co, .slice F nf cf, .slice P np cp] 42) = w4 := ⟨_, rfl⟩
    have hb34 : Below w3.heap.size w3 w4 := by rw [← hw4]; exact (Below.refl _ _).alloc (Nat.le_refl _) _
    have hh4 : Has w4 w3.heap.size 42 #[.slice O no co, .slice F nf cf, .slice P np cp] := by rw [← hw4]; exact Has.made _ _ _
    have hg3 := only_trans HG2.out (only_below hb3 (Nat.le_refl _) (some gr))
    have hg4 := only_trans hg3 (only_below hb34 (Nat.le_refl _) (some gr))
    have HKD4 := Lib.hid (hkd.under hb34)
    have HR4 := Lib.hid ((HR2.out.under hb3 (Nat.le_refl _)).under hb34 (Nat.le_refl _))
    have HNE2 : Hid (∀ a, (O = some a ∨ F = some a ∨ P = some a) → w.heap.size + 2 ≤ a.block) := Lib.hid (fun a h => by have := hnew a h; have := HS0.out; omega)
    have HNE : Hid (∀ a, (O = some a ∨ F = some a ∨ P = some a) → a.block ≠ gr) := Lib.hid (fun a h e => by have := hnew a h; have := HS2.out; omega)
    obtain ⟨gc, hgc⟩ : ∃ gc, w3.heap.size = gc := ⟨_, rfl⟩
    have hgc2 : gr < gc := by have := hb3.size; have := HS2.out; omega
    have HGCW : Hid (w.heap.size + 2 ≤ gc) := Lib.hid (by have := hb3.size; have := HS0.out; omega)
    rw [hgc] at hh4
    have HH4 := Lib.hid hh4; have HG4 := Lib.hid hg4
    clear hb34 hh4 hg3 hg4 hkd hb3 hnew HG2 HR2 HK2 hid hs2
    obtain ⟨q, hq⟩ : ∃ q, mknown id = q := ⟨_, rfl⟩
    rw [hq]
    rw [hq] at HT2
    cases q
    · have hTT : T = (0, [], [], 4) := by have h := HT2.out; rw [if_pos rfl] at h; exact h.symm
      subst hTT
      have HG := HG4
      clear HT2 hq HKD4 HR4 HG4
      have hkw := HKZ0.out.grow HG.out (by intro e; injection e with e; omega)
      have hmw := HMZ0.out.grow HG.out (by intro e; injection e with e; omega)
      have HK1 : Hid ((w4).heap[w.heap.size]? = some (.cells #[.slice none 0 0, .slice none 0 0, .slice none 0 0] 42 (0, 0))) := Lib.hid hkw
      have HM1 : Hid (((w4).setRow w.heap.size #[.slice none 0 0, .slice none 0 0, .slice none 0 0]).heap[w.heap.size + 1]? = some (.cells #[.int .i64 0, .int .i64 0, .int .i64 0, .int .i64 0, .slice none 0 0, .slice none 0 0] 25 (0, 0))) := Lib.hid (has_setRow_other hmw (by omega) _)
      have HKF : Hid (Has (((w4).setRow w.heap.size #[.slice none 0 0, .slice none 0 0, .slice none 0 0]).setRow (w.heap.size + 1) #[.int .i64 0, .int .i64 0, .int .i64 0, .int .i64 0, .slice none 0 0, .slice none 0 0]) w.heap.size 42 #[.slice none 0 0, .slice none 0 0, .slice none 0 0]) := Lib.hid (has_setRow_other (has_setRow hkw _) (by omega) _)
      have HMF : Hid (Has (((w4).setRow w.heap.size #[.slice none 0 0, .slice none 0 0, .slice none 0 0]).setRow (w.heap.size + 1) #[.int .i64 0, .int .i64 0, .int .i64 0, .int .i64 0, .slice none 0 0, .slice none 0 0]) (w.heap.size + 1) 25 #[.int .i64 0, .int .i64 0, .int .i64 0, .int .i64 0, .slice none 0 0, .slice none 0 0]) := Lib.hid (has_setRow (show Has _ _ 25 _ from HM1.out) _)
      have HBF : Hid (Below B w (((w4).setRow w.heap.size #[.slice none 0 0, .slice none 0 0, .slice none 0 0]).setRow (w.heap.size + 1) #[.int .i64 0, .int .i64 0, .int .i64 0, .int .i64 0, .slice none 0 0, .slice none 0 0])) := Lib.hid (below_row (below_row (below_only HB0.out HG.out (by have := HS0.out; omega) hB) (by omega) _) (by omega) _)
      clear hkw hmw HG
      go_wp2_with (first
        | (with_reducible refine wpList_store_rowTo (o := ⟨none, _, _, _, _, _⟩) rfl 42 _ _ rfl rfl w.heap.size #[.slice none 0 0, .slice none 0 0, .slice none 0 0] rfl rfl 42 _ HK1.out (by kernel_rfl) (by kernel_rfl) (by kernel_rfl) ?_)
        | (with_reducible refine wpList_store_rowTo (o := ⟨none, _, _, _, _, _⟩) rfl 25 _ _ rfl rfl (w.heap.size + 1) #[.int .i64 0, .int .i64 0, .int .i64 0, .int .i64 0, .slice none 0 0, .slice none 0 0] rfl rfl 25 _ HM1.out (by kernel_rfl) (by kernel_rfl) (by kernel_rfl) ?_))
      refine bodyPost_ret (results_cell2_tmp rfl _ _ w.heap.size (w.heap.size + 1) 42 25 _ _ _ _ rfl HKF.out Tryd.underlying42 rfl (by kernel_rfl) rfl HMF.out Tryd.underlying25 rfl (by kernel_rfl)) rfl ?_
      unfold StP
      exact ⟨none, 0, 0, none, 0, 0, none, 0, 0, 0, 0, 0, 0, none, 0, 0, [], rfl, fun h => absurd h (by decide), HBF.out⟩
    · have HK := Lib.hid hq
      have HT3 : Hid _ := Lib.hid (by have h := HT2.out; rw [if_neg (by decide)] at h; exact h)
      have hbw4 : Below B w w4 := below_only HB0.out HG4.out (by have := HS0.out; omega) hB
      have HW4 := Lib.hid (width_any 1 w4 (HWDB.out w4 hbw4))
      rw [w1_10] at HW4
      clear HT2 hq hbw4
      go_wp2_with fail
      refine HW4.out.mono ?_
      rintro e w5 ⟨rfl, rfl⟩
      clear HW4
      go_wp2_with fail
      by_cases h3 : ((bitsOf xs).drop 8).length < 10
      · have hTT : T = (0, [], [], 10) := by have h := HT3.out; rw [if_pos h3] at h; exact h.symm
        subst hTT
        refine (get_no gr xs 8 10 w4 HR4.out (by omega) (by omega) h3).mono ?_
        rintro e w5 ⟨rfl, hr5, hg5⟩
        have HG := Lib.hid (only_trans HG4.out hg5)
        clear hr5 hg5 h3 HT3 HG4 HR4 HKD4
        have hkw := HKZ0.out.grow HG.out (by intro e; injection e with e; omega)
        have hmw := HMZ0.out.grow HG.out (by intro e; injection e with e; omega)
        have HK1 : Hid ((w5).heap[w.heap.size]? = some (.cells #[.slice none 0 0, .slice none 0 0, .slice none 0 0] 42 (0, 0))) := Lib.hid hkw
        have HM1 : Hid (((w5).setRow w.heap.size #[.slice none 0 0, .slice none 0 0, .slice none 0 0]).heap[w.heap.size + 1]? = some (.cells #[.int .i64 0, .int .i64 0, .int .i64 0, .int .i64 0, .slice none 0 0, .slice none 0 0] 25 (0, 0))) := Lib.hid (has_setRow_other hmw (by omega) _)
        have HKF : Hid (Has (((w5).setRow w.heap.size #[.slice none 0 0, .slice none 0 0, .slice none 0 0]).setRow (w.heap.size + 1) #[.int .i64 0, .int .i64 0, .int .i64 0, .int .i64 0, .slice none 0 0, .slice none 0 0]) w.heap.size 42 #[.slice none 0 0, .slice none 0 0, .slice none 0 0]) := Lib.hid (has_setRow_other (has_setRow hkw _) (by omega) _)
        have HMF : Hid (Has (((w5).setRow w.heap.size #[.slice none 0 0, .slice none 0 0, .slice none 0 0]).setRow (w.heap.size + 1) #[.int .i64 0, .int .i64 0, .int .i64 0, .int .i64 0, .slice none 0 0, .slice none 0 0]) (w.heap.size + 1) 25 #[.int .i64 0, .int .i64 0, .int .i64 0, .int .i64 0, .slice none 0 0, .slice none 0 0]) := Lib.hid (has_setRow (show Has _ _ 25 _ from HM1.out) _)
        have HBF : Hid (Below B w (((w5).setRow w.heap.size #[.slice none 0 0, .slice none 0 0, .slice none 0 0]).setRow (w.heap.size + 1) #[.int .i64 0, .int .i64 0, .int .i64 0, .int .i64 0, .slice none 0 0, .slice none 0 0])) := Lib.hid (below_row (below_row (below_only HB0.out HG.out (by have := HS0.out; omega) hB) (by omega) _) (by omega) _)
        clear hkw hmw HG
        go_wp2_with (first
          | (with_reducible refine wpList_store_rowTo (o := ⟨none, _, _, _, _, _⟩) rfl 42 _ _ rfl rfl w.heap.size #[.slice none 0 0, .slice none 0 0, .slice none 0 0] rfl rfl 42 _ HK1.out (by kernel_rfl) (by kernel_rfl) (by kernel_rfl) ?_)
          | (with_reducible refine wpList_store_rowTo (o := ⟨none, _, _, _, _, _⟩) rfl 25 _ _ rfl rfl (w.heap.size + 1) #[.int .i64 0, .int .i64 0, .int .i64 0, .int .i64 0, .slice none 0 0, .slice none 0 0] rfl rfl 25 _ HM1.out (by kernel_rfl) (by kernel_rfl) (by kernel_rfl) ?_))
        refine bodyPost_ret (results_cell2_tmp rfl _ _ w.heap.size (w.heap.size + 1) 42 25 _ _ _ _ rfl HKF.out Tryd.underlying42 rfl (by kernel_rfl) rfl HMF.out Tryd.underlying25 rfl (by kernel_rfl)) rfl ?_
        unfold StP
        exact ⟨none, 0, 0, none, 0, 0, none, 0, 0, 0, 0, 0, 0, none, 0, 0, [], rfl, fun h => absurd h (by decide), HBF.out⟩
      · have HT4 : Hid _ := Lib.hid (by have h := HT3.out; rw [if_neg h3] at h; exact h)
        have hga := get_at gr xs 8 10 w4 HR4.out (by omega) (by omega) h3
        have hn10 := num_lt (((bitsOf xs).drop 8).take 10)
        rw [List.length_take, Nat.min_eq_left (by omega)] at hn10
        have hn10 : num (((bitsOf xs).drop 8).take 10) < 1024 := hn10
        obtain ⟨told, htold⟩ : ∃ told, num (((bitsOf xs).drop 8).take 10) = told := ⟨_, rfl⟩
        rw [htold] at hga HT4 hn10
        refine hga.mono ?_
        rintro e w5 ⟨rfl, hr5, hg5⟩
        have HR5 := Lib.hid hr5
        have HG5 := Lib.hid (only_trans HG4.out hg5)
        have HKD5 := Lib.hid (HKD4.out.grow hg5 HNE.out)
        have HH5 := Lib.hid (HH4.out.grow hg5 (by intro e; injection e with e; omega))
        clear hga hr5 hg5 h3 HT3 HG4 HR4 HKD4 HH4 htold hw4 hgc
        by_cases h5 : told = xs.length
        · have HT5 : Hid _ := Lib.hid (by have h := HT4.out; rw [if_neg (by omega)] at h; exact h)
          subst h5
          clear HT4
          have e1 : ((xs.length : Int) != (xs.length : Int)) = false := by simp
          have k0 : w5.cell? ⟨gc, 0, none⟩ = some (.slice O no co) := HH5.out.cell 0
          have k1 : w5.cell? ⟨gc, 1, none⟩ = some (.slice F nf cf) := HH5.out.cell 1
          have k2 : w5.cell? ⟨gc, 2, none⟩ = some (.slice P np cp) := HH5.out.cell 2
          have hvv := omg_vars2 id HK.out O no co F nf cf P np cp w5 HKD5.out
          unfold kdV at hvv
          have HVN : Hid ((varsI id).length = (mvars id).length) := Lib.hid (by simp [varsI])
          have HVV := Lib.hid hvv
          have HVI : Hid (natI (mvars id) = varsI id) := Lib.hid rfl
          have HML := Lib.hid (mvars_lt HK.out)
          generalize varsI id = VI at *
          clear hvv
          go_wp2_with fail
          refine HVV.out.mono ?_
          rintro e w6 ⟨A6, c6, rfl, hs6, hb6, hl6⟩
          have HS6 := Lib.hid hs6
          have HL6 : Hid (∀ a, A6 = some a → a.block ≠ gr) := Lib.hid (fun a h e => by have := hl6 a h; have := HG5.out.size; have := HS0.out; omega)
          have hg56 := only_below hb6 (Nat.le_refl _) (some gr)
          have HG6 := Lib.hid (only_trans HG5.out hg56)
          have HKD6 := Lib.hid (HKD5.out.under hb6)
          have HH6 := Lib.hid (HH5.out.under hb6 HH5.out.lt)
          have HR6 := Lib.hid (HR5.out.under hb6 (Nat.le_refl _))
          have HS6L : Hid (w0.heap.size ≤ w6.heap.size) := Lib.hid HG6.out.size
          have hgs6 : gr < w6.heap.size := by have := HG6.out.size; have := HS0.out; omega
          clear hs6 hb6 hl6 hg56 HG5 HKD5 HH5 HR5 HVV k0 k1 k2 e1
          obtain ⟨L, hL⟩ : ∃ L, mvars id = L := ⟨_, rfl⟩
          have HLL := Lib.hid hL
          rw [hL] at HVN HVI HML HT5
          have hvl : VI.length ≤ 8 := by
            have := (mshape HK.out).ownN
            rw [HVN.out, ← hL]
            unfold mvars baseV
            cases mup id <;> simp <;> omega
          have HVL := Lib.hid hvl
          clear hL hvl
          go_wp2
          go_loopw [12, 57] (fun s i wr => ∃ (j : Nat) (N : List Int) (A5 : Option Addr) (c5 p : Nat), j ≤ VI.length ∧ i = .int .i64 (j : Nat) ∧ s = .slice A5 j c5 ∧ N.length = j ∧ readVars L ((bitsOf xs).drop 18) = rvJoin N (readVars (L.drop j) ((bitsOf xs).drop p)) ∧ IsR wr gr xs p ∧ wr.ownsRow w6.heap.size 3 1 (.slice A5 j c5) j (ints N) ∧ w6.grownBy wr (some gr)) (fun _ i _ => VI.length - (intOf i).toNat)
          case atStart => exact ⟨0, [], none, 0, 18, by omega, rfl, rfl, rfl, by rw [List.drop_zero]; exact rv_start _ _, HR6.out, World.ownsRow_nil _ _ _ _, only_refl _ _⟩
          case round =>
            clear HR6
            obtain ⟨j, N, A5, c5, p, hj, rfl, rfl, hNl, hrv, hrr, ho, hgw⟩ := hrel
            have HNL := Lib.hid hNl; have HRV := Lib.hid hrv; have HRR := Lib.hid hrr; have HO := Lib.hid ho; have HGW := Lib.hid hgw
            have hvl := HVL.out
            clear hNl hrv hrr ho hgw
            by_cases hlt : j < VI.length
            · have hl1 : j < L.length := by have := HVN.out; omega
              have hsl : SlN wr A6 VI.length c6 VI := ⟨HS6.out.len, HS6.out.sl.grow HGW.out (fun a ha _ e => HL6.out a ha (by injection e))⟩
              obtain ⟨b0, o0, rfl, f0⟩ := hsl.at_ (j := j) hlt
              have e0 : VI.getD j 0 = ((L[j] : Nat) : Int) := by rw [← HVI.out]; simp [natI, hl1, List.getD_eq_getElem?_getD]
              rw [e0] at f0
              have hdr : L.drop j = L[j] :: L.drop (j + 1) := List.drop_eq_getElem_cons hl1
              have hv96 := HML.out L[j] (List.getElem_mem hl1)
              have hrv := HRV.out
              rw [hdr] at hrv
              generalize L[j] = v at *
              have hwk := width_one (v : Int) (by omega) (by omega)
              have hbw : Below B w wr := below_only HB0.out (only_trans HG6.out HGW.out) (by have := HS0.out; omega) hB
              have HWV := Lib.hid (width_any v wr (HWDB.out wr hbw))
              have HWD := Lib.hid (HWDB.out wr hbw)
              have HRS := Lib.hid (fun h => hrv.trans (rv_short (v := v) (L := L.drop (j + 1)) (b := (bitsOf xs).drop p) N h))
              have HRB := Lib.hid (fun h hm => hrv.trans (rv_bad (v := v) (L := L.drop (j + 1)) (b := (bitsOf xs).drop p) N h hm))
              have HRT := Lib.hid (fun h hm => hrv.trans (rv_step (v := v) (L := L.drop (j + 1)) (b := (bitsOf xs).drop p) N h hm))
              generalize widthOf v = k at *
              have x0 : (0 : Int) ≤ j := by omega
              have x1 : (j : Int) < VI.length := by omega
              have HWK := Lib.hid hwk
              clear hsl e0 hdr hrv hl1 HRV hwk
              go_wp2_with fail
              refine HWV.out.mono ?_
              rintro e w7 ⟨rfl, rfl⟩
              clear HWV
              go_wp2_with fail
              by_cases h6 : ((bitsOf xs).drop p).length < k
              · have hTT : T = (0, [], [], 10) := by have h := HT5.out; rw [HRS.out h6, if_pos (by decide)] at h; exact h.symm
                subst hTT
                refine (get_no gr xs p k wr HRR.out HWK.out.1 HWK.out.2 h6).mono ?_
                rintro e w7 ⟨rfl, hr7, hg7⟩
                have HG := Lib.hid (only_trans (only_trans HG6.out HGW.out) hg7)
                clear hr7 hg7 h6 HT5 HRR HO HGW f0 hbw
                have hkw := HKZ0.out.grow HG.out (by intro e; injection e with e; omega)
                have hmw := HMZ0.out.grow HG.out (by intro e; injection e with e; omega)
                have HK1 : Hid ((w7).heap[w.heap.size]? = some (.cells #[.slice none 0 0, .slice none 0 0, .slice none 0 0] 42 (0, 0))) := Lib.hid hkw
                have HM1 : Hid (((w7).setRow w.heap.size #[.slice none 0 0, .slice none 0 0, .slice none 0 0]).heap[w.heap.size + 1]? = some (.cells #[.int .i64 0, .int .i64 0, .int .i64 0, .int .i64 0, .slice none 0 0, .slice none 0 0] 25 (0, 0))) := Lib.hid (has_setRow_other hmw (by omega) _)
                have HKF : Hid (Has (((w7).setRow w.heap.size #[.slice none 0 0, .slice none 0 0, .slice none 0 0]).setRow (w.heap.size + 1) #[.int .i64 0, .int .i64 0, .int .i64 0, .int .i64 0, .slice none 0 0, .slice none 0 0]) w.heap.size 42 #[.slice none 0 0, .slice none 0 0, .slice none 0 0]) := Lib.hid (has_setRow_other (has_setRow hkw _) (by omega) _)
                have HMF : Hid (Has (((w7).setRow w.heap.size #[.slice none 0 0, .slice none 0 0, .slice none 0 0]).setRow (w.heap.size + 1) #[.int .i64 0, .int .i64 0, .int .i64 0, .int .i64 0, .slice none 0 0, .slice none 0 0]) (w.heap.size + 1) 25 #[.int .i64 0, .int .i64 0, .int .i64 0, .int .i64 0, .slice none 0 0, .slice none 0 0]) := Lib.hid (has_setRow (show Has _ _ 25 _ from HM1.out) _)
                have HBF : Hid (Below B w (((w7).setRow w.heap.size #[.slice none 0 0, .slice none 0 0, .slice none 0 0]).setRow (w.heap.size + 1) #[.int .i64 0, .int .i64 0, .int .i64 0, .int .i64 0, .slice none 0 0, .slice none 0 0])) := Lib.hid (below_row (below_row (below_only HB0.out HG.out (by have := HS0.out; omega) hB) (by omega) _) (by omega) _)
                clear hkw hmw HG
                go_wp2_with (first
                  | (with_reducible refine wpList_store_rowTo (o := ⟨none, _, _, _, _, _⟩) rfl 42 _ _ rfl rfl w.heap.size #[.slice none 0 0, .slice none 0 0, .slice none 0 0] rfl rfl 42 _ HK1.out (by kernel_rfl) (by kernel_rfl) (by kernel_rfl) ?_)
                  | (with_reducible refine wpList_store_rowTo (o := ⟨none, _, _, _, _, _⟩) rfl 25 _ _ rfl rfl (w.heap.size + 1) #[.int .i64 0, .int .i64 0, .int .i64 0, .int .i64 0, .slice none 0 0, .slice none 0 0] rfl rfl 25 _ HM1.out (by kernel_rfl) (by kernel_rfl) (by kernel_rfl) ?_))
                refine bodyPost_ret (results_cell2_tmp rfl _ _ w.heap.size (w.heap.size + 1) 42 25 _ _ _ _ rfl HKF.out Tryd.underlying42 rfl (by kernel_rfl) rfl HMF.out Tryd.underlying25 rfl (by kernel_rfl)) rfl ?_
                unfold StP
                exact ⟨none, 0, 0, none, 0, 0, none, 0, 0, 0, 0, 0, 0, none, 0, 0, [], rfl, fun h => absurd h (by decide), HBF.out⟩
              · have hga := get_at gr xs p k wr HRR.out HWK.out.1 HWK.out.2 h6
                have hdd : ((bitsOf xs).drop p).drop k = (bitsOf xs).drop (p + k) := by rw [List.drop_drop]
                have hmb : ((num (((bitsOf xs).drop p).take k) : Nat) : Int) < 4294967296 := by
                  have h := num_lt (((bitsOf xs).drop p).take k)
                  have h2 : 2 ^ (((bitsOf xs).drop p).take k).length ≤ 2 ^ 32 := Nat.pow_le_pow_right (by omega) (by rw [List.length_take]; have := HWK.out.2; omega)
                  have h3 : (2 : Nat) ^ 32 = 4294967296 := by decide
                  omega
                have HB2 : Hid _ := Lib.hid (HRB.out h6)
                have HB3 : Hid _ := Lib.hid (HRT.out h6)
                rw [hdd] at HB3
                obtain ⟨n, hn⟩ : ∃ n, num (((bitsOf xs).drop p).take k) = n := ⟨_, rfl⟩
                rw [hn] at hga HB2 HB3 hmb
                refine hga.mono ?_
                rintro e w7 ⟨rfl, hr7, hg7⟩
                have HR7 := Lib.hid hr7
                have hgw7 := only_trans HGW.out hg7
                have HGW7 := Lib.hid hgw7
                have hor : some gr ≠ Value.ownBlock (.slice A5 j c5) := fun e => by have := (HO.out.lt gr e.symm).1; omega
                have ho7 : w7.ownsRow w6.heap.size 3 1 (.slice A5 j c5) j (ints N) := own_keep HO.out hg7 (fun e => hor e.symm)
                have hbw7 : Below B w w7 := below_only HB0.out (only_trans HG6.out hgw7) (by have := HS0.out; omega) hB
                have HM7 := Lib.hid (may_var v n w7 (HWDB.out w7 hbw7))
                have HO7 := Lib.hid ho7
                clear hga hdd hn hr7 hg7 hgw7 hor ho7 hbw7 HRS HRB HRT HO HGW HRR f0 hbw h6 HWD
                generalize mayOf v n = q at *
                go_wp2_with fail
                refine HM7.out.mono ?_
                rintro e w8 ⟨rfl, rfl⟩
                clear HM7
                cases q
                · have hTT : T = (0, [], [], 20) := by have h := HT5.out; rw [HB2.out rfl, if_pos (by decide)] at h; exact h.symm
                  subst hTT
                  have HG := Lib.hid (only_trans HG6.out HGW7.out)
                  clear HT5 HB2 HB3 HO7 HR7 HGW7
                  have hkw := HKZ0.out.grow HG.out (by intro e; injection e with e; omega)
                  have hmw := HMZ0.out.grow HG.out (by intro e; injection e with e; omega)
                  have HK1 : Hid ((w7).heap[w.heap.size]? = some (.cells #[.slice none 0 0, .slice none 0 0, .slice none 0 0] 42 (0, 0))) := Lib.hid hkw
                  have HM1 : Hid (((w7).setRow w.heap.size #[.slice none 0 0, .slice none 0 0, .slice none 0 0]).heap[w.heap.size + 1]? = some (.cells #[.int .i64 0, .int .i64 0, .int .i64 0, .int .i64 0, .slice none 0 0, .slice none 0 0] 25 (0, 0))) := Lib.hid (has_setRow_other hmw (by omega) _)
                  have HKF : Hid (Has (((w7).setRow w.heap.size #[.slice none 0 0, .slice none 0 0, .slice none 0 0]).setRow (w.heap.size + 1) #[.int .i64 0, .int .i64 0, .int .i64 0, .int .i64 0, .slice none 0 0, .slice none 0 0]) w.heap.size 42 #[.slice none 0 0, .slice none 0 0, .slice none 0 0]) := Lib.hid (has_setRow_other (has_setRow hkw _) (by omega) _)
                  have HMF : Hid (Has (((w7).setRow w.heap.size #[.slice none 0 0, .slice none 0 0, .slice none 0 0]).setRow (w.heap.size + 1) #[.int .i64 0, .int .i64 0, .int .i64 0, .int .i64 0, .slice none 0 0, .slice none 0 0]) (w.heap.size + 1) 25 #[.int .i64 0, .int .i64 0, .int .i64 0, .int .i64 0, .slice none 0 0, .slice none 0 0]) := Lib.hid (has_setRow (show Has _ _ 25 _ from HM1.out) _)
                  have HBF : Hid (Below B w (((w7).setRow w.heap.size #[.slice none 0 0, .slice none 0 0, .slice none 0 0]).setRow (w.heap.size + 1) #[.int .i64 0, .int .i64 0, .int .i64 0, .int .i64 0, .slice none 0 0, .slice none 0 0])) := Lib.hid (below_row (below_row (below_only HB0.out HG.out (by have := HS0.out; omega) hB) (by omega) _) (by omega) _)
                  clear hkw hmw HG
                  go_wp2_with (first
                    | (with_reducible refine wpList_store_rowTo (o := ⟨none, _, _, _, _, _⟩) rfl 42 _ _ rfl rfl w.heap.size #[.slice none 0 0, .slice none 0 0, .slice none 0 0] rfl rfl 42 _ HK1.out (by kernel_rfl) (by kernel_rfl) (by kernel_rfl) ?_)
                    | (with_reducible refine wpList_store_rowTo (o := ⟨none, _, _, _, _, _⟩) rfl 25 _ _ rfl rfl (w.heap.size + 1) #[.int .i64 0, .int .i64 0, .int .i64 0, .int .i64 0, .slice none 0 0, .slice none 0 0] rfl rfl 25 _ HM1.out (by kernel_rfl) (by kernel_rfl) (by kernel_rfl) ?_))
                  refine bodyPost_ret (results_cell2_tmp rfl _ _ w.heap.size (w.heap.size + 1) 42 25 _ _ _ _ rfl HKF.out Tryd.underlying42 rfl (by kernel_rfl) rfl HMF.out Tryd.underlying25 rfl (by kernel_rfl)) rfl ?_
                  unfold StP
                  exact ⟨none, 0, 0, none, 0, 0, none, 0, 0, 0, 0, 0, 0, none, 0, 0, [], rfl, fun h => absurd h (by decide), HBF.out⟩
                · have HB4 : Hid _ := Lib.hid (HB3.out rfl)
                  clear HB2 HB3
                  have hs67 := HGW7.out.size
                  have HNW := cell_news w7 #[.int .i64 n] 3 [.int .i64 (n : Nat)] rfl
                  have H1C : Hid (∀ u ∈ ([.int .i64 (n : Nat)] : List Value), u.oneCell' = true) := Lib.hid (fun u hu => by simp at hu; subst hu; rfl)
                  have HOA : Hid ((w7.alloc (.cells #[.int .i64 n] 3)).ownsRow w6.heap.size 3 1 (.slice A5 j c5) j (ints N)) := Lib.hid (HO7.out.alloc _)
                  have HBD : Hid (j + 1 ≤ maxLen ∧ (j + 1) * 8 ≤ 140737488355328 ∧ w6.heap.size ≤ (w7.alloc (.cells #[.int .i64 n] 3)).heap.size) := Lib.hid ⟨by unfold maxLen; omega, by omega, by simp; omega⟩
                  have HGA := Lib.hid (only_alloc HGW7.out (.cells #[.int .i64 n] 3))
                  have HRA := Lib.hid (HR7.out.under ((Below.refl w7.heap.size w7).alloc (Nat.le_refl _) (.cells #[.int .i64 n] 3)) (Nat.le_refl _))
                  clear HO7 HGW7 HR7 hs67
                  go_wp2_with (with_reducible refine wpList_push (o := ⟨some 82, _, _, _, _, _⟩) rfl (.tmp 79) (.tmp 81) 22 rfl w6.heap.size 3 (.int .i64 0) 1 8 Tryd.underlying22 info_int ?hz (by decide) A5 j c5 (ints N) ?hs HOA ⟨w7.heap.size, 0, none⟩ 1 1 [.int .i64 (n : Nat)] ?hx (Lib.hid rfl) HNW H1C HBD ?next)
                  all_goals try rfl
                  case next =>
                    intro A9 c9 w9 ho9 hg9
                    have hgo9 := only_own HGA.out hg9.out (fun k hk => (HOA.out.lt k hk).1)
                    have HR9 := Lib.hid (isr_own HRA.out hg9.out HOA.out (by decide) (by decide))
                    have HO9 : Hid (w9.ownsRow w6.heap.size 3 1 (.slice A9 (j + 1) c9) (j + 1) (ints (N ++ [(n : Int)]))) := Lib.hid (by
                      have h := ho9.out
                      simpa [ints] using h)
                    have HG9 := Lib.hid hgo9
                    clear ho9 hg9 hgo9 HOA HGA HRA
                    go_wp2
                    go_roundw
                    case rel => exact ⟨j + 1, N ++ [(n : Int)], A9, c9, p + k, by omega, by go_num, rfl, by rw [List.length_append, HNL.out]; rfl, HB4.out, HR9.out, HO9.out, HG9.out⟩
                    case measure => simp [intOf]; omega
            · obtain rfl : j = VI.length := by omega
              have hd0 : L.drop VI.length = [] := List.drop_of_length_le (by have := HVN.out; omega)
              have hrv := HRV.out
              rw [hd0, rv_end] at hrv
              have hT6 := HT5.out
              rw [hrv, if_neg (by simp)] at hT6
              have hLN : (mvars id).length = N.length := by rw [HLL.out, HNL.out, HVN.out]
              have hp8 : p ≤ 8 * xs.length := by obtain ⟨_, _, _, _, h, _⟩ := HRR.out; exact h
              have hpl : 8 * xs.length - ((bitsOf xs).drop p).length = p := by rw [List.length_drop, bitsOf_length]; omega
              have HPL := Lib.hid hpl
              generalize (bitsOf xs).drop p = R at *
              subst hT6
              have hg := only_trans HG6.out HGW.out
              have HG := Lib.hid hg
              have hh := HH6.out.grow HGW.out (by intro e; injection e with e; omega)
              have k0 : wr.cell? ⟨gc, 0, none⟩ = some (.slice O no co) := hh.cell 0
              have k1 : wr.cell? ⟨gc, 1, none⟩ = some (.slice F nf cf) := hh.cell 1
              have k2 : wr.cell? ⟨gc, 2, none⟩ = some (.slice P np cp) := hh.cell 2
              have hsn : SlI wr.heap.size wr A5 VI.length c5 N := sli_own HO.out HNL.out
              have HOF := Lib.hid (omg_of id HK.out A5 VI.length c5 N wr.drew (show SlI wr.drew.heap.size wr.drew A5 VI.length c5 N from ⟨hsn.len, hsn.cap, hsn.sl, hsn.low⟩) hLN)
              have hkz := HKZ0.out.grow hg (by intro e; injection e with e; omega)
              have hmz := HMZ0.out.grow hg (by intro e; injection e with e; omega)
              have HKZ := Lib.hid hkz; have HMZ := Lib.hid hmz
              have HKD := Lib.hid (HKD6.out.grow HGW.out HNE.out)
              have HBW := Lib.hid (below_only HB0.out hg (by have := HS0.out; omega) hB)
              have hgcl : gc < wr.heap.size := hh.lt
              have hgcw : w.heap.size + 2 ≤ gc := HGCW.out
              have HC9 : Hid (∀ W, Below wr.drew.heap.size wr.drew W → (W.cell? ⟨gc, 0, none⟩ = some (.slice O no co) ∧ W.cell? ⟨gc, 1, none⟩ = some (.slice F nf cf) ∧ W.cell? ⟨gc, 2, none⟩ = some (.slice P np cp))) := Lib.hid (fun W hW => by
                have h2 := hh.draw.under hW hgcl
                exact ⟨h2.cell 0, h2.cell 1, h2.cell 2⟩)
              have HC10 : Hid (∀ W, Below wr.drew.heap.size wr.drew W → ∀ X, W.grownBy X (some w.heap.size) → (X.cell? ⟨gc, 0, none⟩ = some (.slice O no co) ∧ X.cell? ⟨gc, 1, none⟩ = some (.slice F nf cf) ∧ X.cell? ⟨gc, 2, none⟩ = some (.slice P np cp))) := Lib.hid (fun W hW X hX => by
                have h2 := (hh.draw.under hW hgcl).grow hX (fun e => by injection e with e; omega)
                exact ⟨h2.cell 0, h2.cell 1, h2.cell 2⟩)
              have HC11 : Hid (∀ W, Below wr.drew.heap.size wr.drew W → ∀ X Y, W.grownBy X (some w.heap.size) → X.grownBy Y (some (w.heap.size + 1)) → (Y.cell? ⟨gc, 0, none⟩ = some (.slice O no co) ∧ Y.cell? ⟨gc, 1, none⟩ = some (.slice F nf cf) ∧ Y.cell? ⟨gc, 2, none⟩ = some (.slice P np cp))) := Lib.hid (fun W hW X Y hX hY => by
                have h2 := ((hh.draw.under hW hgcl).grow hX (fun e => by injection e with e; omega)).grow hY (fun e => by injection e with e; omega)
                exact ⟨h2.cell 0, h2.cell 1, h2.cell 2⟩)
              have HNM : Hid (w.heap.size + 1 ≠ w.heap.size) := Lib.hid (by omega)
              have hszr := hg.size
              have HSZ : Hid (w.heap.size + 2 ≤ wr.heap.size) := Lib.hid (by have := HS0.out; omega)
              clear hd0 hrv hLN hp8 hpl hg hh hsn hkz hmz hszr HT5 HRV HGW HG6 HKD6 HH6 HKZ0 HMZ0
              unfold msgV msgCells at *
              go_upto_region 23 with fail
              have HKC := Lib.hid (And.intro k0 (And.intro k1 k2))
              clear k0 k1 k2
              refine wp_region_held_drew (S := fun w' => w'.cell? ⟨gc, 0, none⟩ = some (.slice O no co) ∧ w'.cell? ⟨gc, 1, none⟩ = some (.slice F nf cf) ∧ w'.cell? ⟨gc, 2, none⟩ = some (.slice P np cp)) (by kernel_rfl) HKC.out (fun hHeld => ?_)
              refine wpAnyH_take (i := 0) (v := .agg #[.slice O no co, .slice F nf cf, .slice P np cp]) rfl (by kernel_rfl) (by kernel_rfl) (by kernel_rfl) (fun _ _ _ h => h) (Or.inl ⟨by rfl, ?_⟩) (by assumption) ?_
              · intro w' hSw
                try dsimp only at hSw
                obtain ⟨s0, s1, s2⟩ := hSw
                go_simp
              simp only [Act.put, List.setIfInBounds_toArray]
              refine wpAnyH_take (i := 1) (v := .int .i64 id) rfl (by kernel_rfl) (by kernel_rfl) (by kernel_rfl) (fun _ _ _ h => h) (Or.inl ⟨by rfl, ?_⟩) (by assumption) ?_
              · intro w' hSw
                go_simp
              simp only [Act.put]
              refine wpAnyH_take (i := 2) (v := .slice A5 VI.length c5) rfl (by kernel_rfl) (by kernel_rfl) (by kernel_rfl) (fun _ _ _ h => h) (Or.inl ⟨by rfl, ?_⟩) (by assumption) ?_
              · intro w' hSw
                go_simp
              simp only [Act.put]
              refine wpAnyH_ready (rs := [3]) (by kernel_rfl) (by simp) ?_
              refine AllReadyH.cons rfl (fun K hK => ?_) AllReadyH.nil
              go_simp
              refine HOF.out.mono ?_
              rintro e w9 ⟨t, a, o, A9, n9, c9, V9, rfl, hmk, hs9, hb9, hx9⟩
              have hc9 : w9.cell? ⟨gc, 0, none⟩ = some (.slice O no co) ∧ w9.cell? ⟨gc, 1, none⟩ = some (.slice F nf cf) ∧ w9.cell? ⟨gc, 2, none⟩ = some (.slice P np cp) := HC9.out w9 hb9
              have zx0 : Has w9 w.heap.size 42 #[.slice none 0 0, .slice none 0 0, .slice none 0 0] := (HKZ.out.draw).under hb9 HKZ.out.lt
              have hg1 := grown_setRow w9 w.heap.size #[.slice O no co, .slice F nf cf, .slice P np cp]
              have zy0 : Has (w9.setRow w.heap.size #[.slice O no co, .slice F nf cf, .slice P np cp]) (w.heap.size + 1) 25 #[.int .i64 0, .int .i64 0, .int .i64 0, .int .i64 0, .slice none 0 0, .slice none 0 0] := ((HMZ.out.draw).under hb9 HMZ.out.lt).grow hg1 (by intro e; injection e with e; omega)
              have hg2 := grown_setRow (w9.setRow w.heap.size #[.slice O no co, .slice F nf cf, .slice P np cp]) (w.heap.size + 1) #[.int .i64 id, .int .i64 t, .int .i64 a, .int .i64 o, .slice A9 n9 c9, .slice none 0 0]
              have hc10 := HC10.out w9 hb9 _ hg1
              have hc11 := HC11.out w9 hb9 _ _ hg1 hg2
              have HK1 : Hid (w9.heap[w.heap.size]? = some (.cells #[.slice none 0 0, .slice none 0 0, .slice none 0 0] 42 (0, 0))) := Lib.hid zx0
              have HM1 : Hid ((w9.setRow w.heap.size #[.slice O no co, .slice F nf cf, .slice P np cp]).heap[w.heap.size + 1]? = some (.cells #[.int .i64 0, .int .i64 0, .int .i64 0, .int .i64 0, .slice none 0 0, .slice none 0 0] 25 (0, 0))) := Lib.hid zy0
              dsimp only
              refine hK.out _ _ hc9 (fun hHeld2 => ?_)
              clear hK K
              try simp only [Act.put, List.setIfInBounds_toArray, List.set_cons_zero, List.set_cons_succ]
              refine wpAnyH_ready (rs := [4]) (by kernel_rfl) (by simp) ?_
              refine AllReadyH.cons rfl (fun K hK => ?_) AllReadyH.nil
              refine step_store_row rfl 42 _ _ rfl rfl w.heap.size #[.slice O no co, .slice F nf cf, .slice P np cp] rfl rfl 42 _ HK1 (by kernel_rfl) (by kernel_rfl) (by kernel_rfl) ?_
              refine hK.out _ _ hc10 (fun hHeld3 => ?_)
              clear hK K
              refine wpAnyH_ready (rs := [5]) (by kernel_rfl) (by simp) ?_
              refine AllReadyH.cons rfl (fun K hK => ?_) AllReadyH.nil
              refine step_store_row rfl 25 _ _ rfl rfl (w.heap.size + 1) #[.int .i64 id, .int .i64 t, .int .i64 a, .int .i64 o, .slice A9 n9 c9, .slice none 0 0] rfl rfl 25 _ HM1 (by kernel_rfl) (by kernel_rfl) (by kernel_rfl) ?_
              refine hK.out _ _ hc11 (fun hHeld4 => ?_)
              clear hK K
              refine wpAnyH_ready (rs := [6]) (by kernel_rfl) (by simp) ?_
              refine AllReadyH.cons rfl (fun K hK => ?_) AllReadyH.nil
              go_simp
              refine hK.out _ _ hc11 (fun hHeld5 => ?_)
              clear hK K
              try simp only [Act.put, List.setIfInBounds_toArray, List.set_cons_zero, List.set_cons_succ]
              refine wpAnyH_done (by kernel_rfl) ?_ _
              clear hc9 hc10 hc11 HK1 HM1 hHeld hHeld2 hHeld3 hHeld4 hHeld5
              have hl9 : ∀ a', A9 = some a' → w6.heap.size ≤ a'.block := fun a' h => by
                obtain ⟨a0, h0, h1⟩ := hx9 a' h
                rw [h1]
                exact (HO.out.lt a0.block (by rw [h0]; rfl)).1
              have hk9 := (show KdAt wr.drew O no co F nf cf P np cp (mrow id) from ⟨HKD.out.own, HKD.out.first, HKD.out.may⟩).under hb9
              have hkf := (hk9.grow hg1 (fun a h e => by have := HNE2.out a h; omega)).grow hg2 (fun a h e => by have := HNE2.out a h; omega)
              have hw69 : w.heap.size + 2 ≤ w6.heap.size := by have := HS0.out; have := HS6L.out; omega
              have hsf := (hs9.grow hg1 (fun _ a' h e => by have := hl9 a' h; injection e with e; omega)).grow hg2 (fun _ a' h e => by have := hl9 a' h; injection e with e; omega)
              have hrf : IsR _ gr xs p := ((isR_draws HRR.out 1).under hb9 (Nat.le_refl _)).beside zx0 (by decide) (by decide) hg1
              have hrf2 := hrf.beside zy0 (by decide) (by decide) hg2
              have HKF := Lib.hid ((has_setRow zx0 _).grow hg2 (by intro e; injection e with e; omega))
              have HMF := Lib.hid (has_setRow zy0 #[.int .i64 id, .int .i64 t, .int .i64 a, .int .i64 o, .slice A9 n9 c9, .slice none 0 0])
              have hz1 : wr.heap.size ≤ w9.heap.size := hb9.size
              have hz2 := hg1.size
              have HBF := Lib.hid (below_only (below_only ((below_draws HBW.out 1).trans (hb9.mono (show B ≤ wr.heap.size by have := HSZ.out; omega))) hg1 (by have := HSZ.out; omega) (by omega)) hg2 (by have := HSZ.out; omega) (by omega))
              have HLO : Hid (∀ a', A9 = some a' → B ≤ a'.block) := Lib.hid (fun a' h => by have := hl9 a' h; omega)
              have HKK := Lib.hid hkf; have HSF := Lib.hid hsf; have HRF := Lib.hid hrf2; have HMK := Lib.hid hmk
              clear hz1 hz2 hl9 hk9 hkf hw69 hsf hrf hrf2 hmk hs9 hb9 hx9 hg1 hg2 zx0 zy0 HO HRR HOF
              go_wp2
              refine bodyPost_ret (results_cell2_tmp rfl _ _ w.heap.size (w.heap.size + 1) 42 25 _ _ _ _ rfl HKF.out Tryd.underlying42 rfl (by kernel_rfl) rfl HMF.out Tryd.underlying25 rfl (by kernel_rfl)) rfl ?_
              unfold StP
              exact ⟨O, no, co, F, nf, cf, P, np, cp, id, t, a, o, A9, n9, c9, V9, rfl, fun _ => ⟨rfl, HKK.out, HMK.out, HSF.out, by rw [HPL.out]; exact HRF.out, HLO.out⟩, HBF.out⟩
        · have hTT : T = (0, [], [], 8) := by have h := HT4.out; rw [if_pos h5] at h; exact h.symm
          subst hTT
          have e1 : ((told : Int) != (xs.length : Int)) = true := by simp; omega
          have HG := HG5
          clear HT4 HKD5 HR5 HH5 HG5 h5
          have hkw := HKZ0.out.grow HG.out (by intro e; injection e with e; omega)
          have hmw := HMZ0.out.grow HG.out (by intro e; injection e with e; omega)
          have HK1 : Hid ((w5).heap[w.heap.size]? = some (.cells #[.slice none 0 0, .slice none 0 0, .slice none 0 0] 42 (0, 0))) := Lib.hid hkw
          have HM1 : Hid (((w5).setRow w.heap.size #[.slice none 0 0, .slice none 0 0, .slice none 0 0]).heap[w.heap.size + 1]? = some (.cells #[.int .i64 0, .int .i64 0, .int .i64 0, .int .i64 0, .slice none 0 0, .slice none 0 0] 25 (0, 0))) := Lib.hid (has_setRow_other hmw (by omega) _)
          have HKF : Hid (Has (((w5).setRow w.heap.size #[.slice none 0 0, .slice none 0 0, .slice none 0 0]).setRow (w.heap.size + 1) #[.int .i64 0, .int .i64 0, .int .i64 0, .int .i64 0, .slice none 0 0, .slice none 0 0]) w.heap.size 42 #[.slice none 0 0, .slice none 0 0, .slice none 0 0]) := Lib.hid (has_setRow_other (has_setRow hkw _) (by omega) _)
          have HMF : Hid (Has (((w5).setRow w.heap.size #[.slice none 0 0, .slice none 0 0, .slice none 0 0]).setRow (w.heap.size + 1) #[.int .i64 0, .int .i64 0, .int .i64 0, .int .i64 0, .slice none 0 0, .slice none 0 0]) (w.heap.size + 1) 25 #[.int .i64 0, .int .i64 0, .int .i64 0, .int .i64 0, .slice none 0 0, .slice none 0 0]) := Lib.hid (has_setRow (show Has _ _ 25 _ from HM1.out) _)
          have HBF : Hid (Below B w (((w5).setRow w.heap.size #[.slice none 0 0, .slice none 0 0, .slice none 0 0]).setRow (w.heap.size + 1) #[.int .i64 0, .int .i64 0, .int .i64 0, .int .i64 0, .slice none 0 0, .slice none 0 0])) := Lib.hid (below_row (below_row (below_only HB0.out HG.out (by have := HS0.out; omega) hB) (by omega) _) (by omega) _)
          clear hkw hmw HG
          go_wp2_with (first
            | (with_reducible refine wpList_store_rowTo (o := ⟨none, _, _, _, _, _⟩) rfl 42 _ _ rfl rfl w.heap.size #[.slice none 0 0, .slice none 0 0, .slice none 0 0] rfl rfl 42 _ HK1.out (by kernel_rfl) (by kernel_rfl) (by kernel_rfl) ?_)
            | (with_reducible refine wpList_store_rowTo (o := ⟨none, _, _, _, _, _⟩) rfl 25 _ _ rfl rfl (w.heap.size + 1) #[.int .i64 0, .int .i64 0, .int .i64 0, .int .i64 0, .slice none 0 0, .slice none 0 0] rfl rfl 25 _ HM1.out (by kernel_rfl) (by kernel_rfl) (by kernel_rfl) ?_))
          refine bodyPost_ret (results_cell2_tmp rfl _ _ w.heap.size (w.heap.size + 1) 42 25 _ _ _ _ rfl HKF.out Tryd.underlying42 rfl (by kernel_rfl) rfl HMF.out Tryd.underlying25 rfl (by kernel_rfl)) rfl ?_
          unfold StP
          exact ⟨none, 0, 0, none, 0, 0, none, 0, 0, 0, 0, 0, 0, none, 0, 0, [], rfl, fun h => absurd h (by decide), HBF.out⟩
end Go.Proofs.YtamnhnleipnhdaaDoor
