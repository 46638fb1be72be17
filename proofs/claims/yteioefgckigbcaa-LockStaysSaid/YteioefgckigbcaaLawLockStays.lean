/-
  linesidelaw16: LockStays.
-/
import Derived.Test.YteioefgckigbcaaLawLockExtents

import Derived.BigQuiet

import Derived.IntWalk

namespace Go.Proofs.Yteioefgckigbcaa

open Go.RowKit

open Go.Great

set_option maxRecDepth 100000 in
set_option maxHeartbeats 20000000 in
theorem lockStays_walk (t : Tp3) (a : TpA) (A : Option Addr) (n c : Nat) (l : List Op4) (route train : Int) (B : Option Addr) (m d : Nat) (b : List Op4) (w : World) (ht : TopR w t a) (hcj : t.joints.length ≤ a.cj) (hs : SlO opC16 4 w A n c l) (_ : n ≤ c) (_ : (Lit.int .i64 route).wf = true) (_ : (Lit.int .i64 train).wf = true) (hbs : SlO opC16 4 w B m d b) (_ : m ≤ d) :
    Calls Try.prog 4 #[.agg (tpC t a), .slice A n c, .int .i64 route, .int .i64 train, .slice B m d] w fun e w' => e = .returned (.bool true) ∧ Below w.heap.size w w' := by
  obtain ⟨wa, hwa⟩ : ∃ wa, w.alloc (.cells (tpC t a) 27) = wa := ⟨_, rfl⟩
  have hbwa : Below w.heap.size w wa := by rw [← hwa]; exact (Below.refl _ _).alloc (Nat.le_refl _) _
  have h0 : Has wa (w.heap.size) 27 (tpC t a) := by rw [← hwa]; exact (Has.made _ _ _)
  have HWA := Lib.hid hwa; have HBWA := Lib.hid hbwa
  have HT := Lib.hid (fun W (hW : Below w.heap.size w W) => ht.under hW)
  have HCJ := Lib.hid hcj
  have HS := Lib.hid (fun W (hW : Below w.heap.size w W) => hs.under hW)
  have HS2 := Lib.hid hbs
  have HL2 := Lib.hid hbs.1
  clear hs hbs
  have HG0 := Lib.hid h0
  clear hwa hbwa hcj ht h0
  obtain ⟨q, hq⟩ : ∃ q, (lightT t && decide (0 ≤ 100)) = q := ⟨_, rfl⟩
  have HQ := Lib.hid hq
  clear hq
  go_enter Try.func4, Try.ntmps4
  go_upto_region 1 with fail
  rw [HWA.out]
  clear HWA
  go_wp2_with fail
  refine (awake16_any wa).mono ?_
  rintro e w1 ⟨rfl, hb⟩
  have HB := HBWA
  clear HBWA
  have HB := Lib.hid (HB.out.trans (hb.mono HB.out.size))
  have HG0 := Lib.hid (HG0.out.under hb HG0.out.lt)
  clear hb
  go_wp2_with (with_reducible refine wpList_load_row (o := ⟨some 28, _, _, _, _, _⟩) rfl 27 _ rfl (w.heap.size) rfl 27 (tpC t a) (0, 0) _ (HG0.out).raw11 Try.underlying27 rfl (by kernel_rfl) ?_)
  refine (few16_any t a none 0 0 w1 (HT.out _ HB.out)).mono ?_
  rw [HQ.out]
  rintro e w2 ⟨rfl, hb⟩
  have HB := Lib.hid (HB.out.trans (hb.mono HB.out.size))
  have HG0 := Lib.hid (HG0.out.under hb HG0.out.lt)
  clear hb
  cases q with
  | false =>
    go_upto_region 3 with fail
    refine wp_region_held_drew (S := (fun W_ => (Has W_ (w.heap.size) 27 (tpC t a)) ∧ (Below w.heap.size w W_))) (by kernel_rfl) ?_ (fun hHeld => ?_)
    · exact ⟨HG0.out.draw, below_dr11 HB.out⟩
    refine wpAnyH_take (i := 0) (oi := ⟨some 30, _, _, _, _, _⟩) (v := ?_) rfl (by kernel_rfl) (by kernel_rfl) (by kernel_rfl) (fun _ _ _ h => h) (Or.inl ⟨by rfl, ?_⟩) (by assumption) ?_
    rotate_left
    · intro w_ hSw; (try dsimp only at hSw); go_simp <;> with_reducible rfl
    simp only [Act.put, List.setIfInBounds_toArray, List.set_cons_zero, List.set_cons_succ]
    refine wpAnyH_take (i := 1) (oi := ⟨some 31, _, _, _, _, _⟩) (v := ?_) rfl (by kernel_rfl) (by kernel_rfl) (by kernel_rfl) (fun _ _ _ h => h) (Or.inl ⟨by rfl, ?_⟩) (by assumption) ?_
    rotate_left
    · intro w_ hSw; (try dsimp only at hSw); go_simp <;> with_reducible rfl
    simp only [Act.put, List.setIfInBounds_toArray, List.set_cons_zero, List.set_cons_succ]
    refine wpAnyH_take (i := 2) (oi := ⟨some 32, _, _, _, _, _⟩) (v := ?_) rfl (by kernel_rfl) (by kernel_rfl) (by kernel_rfl) (fun _ _ _ h => h) (Or.inl ⟨by rfl, ?_⟩) (by assumption) ?_
    rotate_left
    · intro w_ hSw; (try dsimp only at hSw); go_simp <;> with_reducible rfl
    simp only [Act.put, List.setIfInBounds_toArray, List.set_cons_zero, List.set_cons_succ]
    refine wpAnyH_take (i := 3) (oi := ⟨some 33, _, _, _, _, _⟩) (v := ?_) rfl (by kernel_rfl) (by kernel_rfl) (by kernel_rfl) (fun _ _ _ h => h) (Or.inl ⟨by rfl, ?_⟩) (by assumption) ?_
    rotate_left
    · intro w_ hSw; (try dsimp only at hSw); go_simp <;> with_reducible rfl
    simp only [Act.put, List.setIfInBounds_toArray, List.set_cons_zero, List.set_cons_succ]
    refine wpAnyH_take (i := 4) (oi := ⟨some 34, _, _, _, _, _⟩) (v := ?_) rfl (by kernel_rfl) (by kernel_rfl) (by kernel_rfl) (fun _ _ _ h => h) (Or.inl ⟨by rfl, ?_⟩) (by assumption) ?_
    rotate_left
    · intro w_ hSw; (try dsimp only at hSw); go_simp <;> with_reducible rfl
    simp only [Act.put, List.setIfInBounds_toArray, List.set_cons_zero, List.set_cons_succ]
    refine wpAnyH_take (i := 5) (oi := ⟨some 35, _, _, _, _, _⟩) (v := ?_) rfl (by kernel_rfl) (by kernel_rfl) (by kernel_rfl) (fun _ _ _ h => h) (Or.inl ⟨by rfl, ?_⟩) (by assumption) ?_
    rotate_left
    · intro w_ hSw; (try dsimp only at hSw); go_simp <;> with_reducible rfl
    simp only [Act.put, List.setIfInBounds_toArray, List.set_cons_zero, List.set_cons_succ]
    refine wpAnyH_take (i := 6) (oi := ⟨some 36, _, _, _, _, _⟩) (v := ?_) rfl (by kernel_rfl) (by kernel_rfl) (by kernel_rfl) (fun _ _ _ h => h) (Or.inl ⟨by rfl, ?_⟩) (by assumption) ?_
    rotate_left
    · intro w_ hSw; (try dsimp only at hSw); go_simp <;> with_reducible rfl
    simp only [Act.put, List.setIfInBounds_toArray, List.set_cons_zero, List.set_cons_succ]
    refine wpAnyH_take (i := 7) (oi := ⟨some 37, _, _, _, _, _⟩) (v := undef) rfl (by kernel_rfl) (by kernel_rfl) (by kernel_rfl) (fun _ _ _ h => h) (Or.inr ⟨by rfl, rfl⟩) (by assumption) ?_
    simp only [Act.put, List.setIfInBounds_toArray, List.set_cons_zero, List.set_cons_succ]
    refine wpAnyH_take (i := 8) (oi := ⟨some 38, _, _, _, _, _⟩) (v := undef) rfl (by kernel_rfl) (by kernel_rfl) (by kernel_rfl) (fun _ _ _ h => h) (Or.inr ⟨by rfl, rfl⟩) (by assumption) ?_
    simp only [Act.put, List.setIfInBounds_toArray, List.set_cons_zero, List.set_cons_succ]
    refine wpAnyH_take (i := 9) (oi := ⟨some 39, _, _, _, _, _⟩) (v := undef) rfl (by kernel_rfl) (by kernel_rfl) (by kernel_rfl) (fun _ _ _ h => h) (Or.inr ⟨by rfl, rfl⟩) (by assumption) ?_
    simp only [Act.put, List.setIfInBounds_toArray, List.set_cons_zero, List.set_cons_succ]
    refine wpAnyH_take (i := 10) (oi := ⟨some 40, _, _, _, _, _⟩) (v := ?_) rfl (by kernel_rfl) (by kernel_rfl) (by kernel_rfl) (fun _ _ _ h => h) (Or.inl ⟨by rfl, ?_⟩) (by assumption) ?_
    rotate_left
    · intro w_ hSw; (try dsimp only at hSw); go_simp <;> with_reducible rfl
    simp only [Act.put, List.setIfInBounds_toArray, List.set_cons_zero, List.set_cons_succ]
    refine wpAnyH_take (i := 11) (oi := ⟨some 41, _, _, _, _, _⟩) (v := ?_) rfl (by kernel_rfl) (by kernel_rfl) (by kernel_rfl) (fun _ _ _ h => h) (Or.inl ⟨by rfl, ?_⟩) (by assumption) ?_
    rotate_left
    · intro w_ hSw; (try dsimp only at hSw); go_simp <;> with_reducible rfl
    simp only [Act.put, List.setIfInBounds_toArray, List.set_cons_zero, List.set_cons_succ]
    refine wpAnyH_take (i := 12) (oi := ⟨some 42, _, _, _, _, _⟩) (v := undef) rfl (by kernel_rfl) (by kernel_rfl) (by kernel_rfl) (fun _ _ _ h => h) (Or.inr ⟨by rfl, rfl⟩) (by assumption) ?_
    simp only [Act.put, List.setIfInBounds_toArray, List.set_cons_zero, List.set_cons_succ]
    refine wpAnyH_take (i := 13) (oi := ⟨some 43, _, _, _, _, _⟩) (v := undef) rfl (by kernel_rfl) (by kernel_rfl) (by kernel_rfl) (fun _ _ _ h => h) (Or.inr ⟨by rfl, rfl⟩) (by assumption) ?_
    simp only [Act.put, List.setIfInBounds_toArray, List.set_cons_zero, List.set_cons_succ]
    refine wpAnyH_take (i := 14) (oi := ⟨some 44, _, _, _, _, _⟩) (v := undef) rfl (by kernel_rfl) (by kernel_rfl) (by kernel_rfl) (fun _ _ _ h => h) (Or.inr ⟨by rfl, rfl⟩) (by assumption) ?_
    simp only [Act.put, List.setIfInBounds_toArray, List.set_cons_zero, List.set_cons_succ]
    refine wpAnyH_take (i := 15) (oi := ⟨some 45, _, _, _, _, _⟩) (v := ?_) rfl (by kernel_rfl) (by kernel_rfl) (by kernel_rfl) (fun _ _ _ h => h) (Or.inl ⟨by rfl, ?_⟩) (by assumption) ?_
    rotate_left
    · intro w_ hSw; (try dsimp only at hSw); go_simp <;> with_reducible rfl
    simp only [Act.put, List.setIfInBounds_toArray, List.set_cons_zero, List.set_cons_succ]
    refine wpAnyH_take (i := 16) (oi := ⟨some 46, _, _, _, _, _⟩) (v := ?_) rfl (by kernel_rfl) (by kernel_rfl) (by kernel_rfl) (fun _ _ _ h => h) (Or.inl ⟨by rfl, ?_⟩) (by assumption) ?_
    rotate_left
    · intro w_ hSw; (try dsimp only at hSw); go_simp <;> with_reducible rfl
    simp only [Act.put, List.setIfInBounds_toArray, List.set_cons_zero, List.set_cons_succ]
    refine wpAnyH_take (i := 17) (oi := ⟨some 47, _, _, _, _, _⟩) (v := undef) rfl (by kernel_rfl) (by kernel_rfl) (by kernel_rfl) (fun _ _ _ h => h) (Or.inr ⟨by rfl, rfl⟩) (by assumption) ?_
    simp only [Act.put, List.setIfInBounds_toArray, List.set_cons_zero, List.set_cons_succ]
    refine wpAnyH_take (i := 18) (oi := ⟨some 48, _, _, _, _, _⟩) (v := undef) rfl (by kernel_rfl) (by kernel_rfl) (by kernel_rfl) (fun _ _ _ h => h) (Or.inr ⟨by rfl, rfl⟩) (by assumption) ?_
    simp only [Act.put, List.setIfInBounds_toArray, List.set_cons_zero, List.set_cons_succ]
    refine wpAnyH_take (i := 19) (oi := ⟨some 49, _, _, _, _, _⟩) (v := undef) rfl (by kernel_rfl) (by kernel_rfl) (by kernel_rfl) (fun _ _ _ h => h) (Or.inr ⟨by rfl, rfl⟩) (by assumption) ?_
    simp only [Act.put, List.setIfInBounds_toArray, List.set_cons_zero, List.set_cons_succ]
    refine wpAnyH_take (i := 20) (oi := ⟨some 50, _, _, _, _, _⟩) (v := undef) rfl (by kernel_rfl) (by kernel_rfl) (by kernel_rfl) (fun _ _ _ h => h) (Or.inr ⟨by rfl, rfl⟩) (by assumption) ?_
    simp only [Act.put, List.setIfInBounds_toArray, List.set_cons_zero, List.set_cons_succ]
    refine wpAnyH_take (i := 21) (oi := ⟨some 51, _, _, _, _, _⟩) (v := ?_) rfl (by kernel_rfl) (by kernel_rfl) (by kernel_rfl) (fun _ _ _ h => h) (Or.inl ⟨by rfl, ?_⟩) (by assumption) ?_
    rotate_left
    · intro w_ hSw; (try dsimp only at hSw); go_simp <;> with_reducible rfl
    simp only [Act.put, List.setIfInBounds_toArray, List.set_cons_zero, List.set_cons_succ]
    refine wpAnyH_done (by kernel_rfl) ?_ _
    have HB := Lib.hid hHeld.2
    clear hHeld
    go_wp2
    go_ret
    exact ⟨by first | rfl | simp, HB.out⟩
  | true =>
    have HLT := Lib.hid (show lightT t = true from by have h_ := HQ.out; simp only [Bool.and_eq_true] at h_; exact h_.1)
    by_cases z1 : 60 < n
    · skip
      have z1_ : (60 : Int) < n := by omega
      have z1d : decide ((60 : Int) < n) = true := decide_eq_true z1_
      have z1e : decide ((n : Int) > 60) = true := decide_eq_true z1_
      go_upto_region 3 with fail
      refine wp_region_held_drew (S := (fun W_ => (Has W_ (w.heap.size) 27 (tpC t a)) ∧ (Below w.heap.size w W_))) (by kernel_rfl) ?_ (fun hHeld => ?_)
      · exact ⟨HG0.out.draw, below_dr11 HB.out⟩
      refine wpAnyH_take (i := 0) (oi := ⟨some 30, _, _, _, _, _⟩) (v := ?_) rfl (by kernel_rfl) (by kernel_rfl) (by kernel_rfl) (fun _ _ _ h => h) (Or.inl ⟨by rfl, ?_⟩) (by assumption) ?_
      rotate_left
      · intro w_ hSw; (try dsimp only at hSw); go_simp <;> with_reducible rfl
      simp only [Act.put, List.setIfInBounds_toArray, List.set_cons_zero, List.set_cons_succ]
      refine wpAnyH_take (i := 1) (oi := ⟨some 31, _, _, _, _, _⟩) (v := ?_) rfl (by kernel_rfl) (by kernel_rfl) (by kernel_rfl) (fun _ _ _ h => h) (Or.inl ⟨by rfl, ?_⟩) (by assumption) ?_
      rotate_left
      · intro w_ hSw; (try dsimp only at hSw); go_simp <;> with_reducible rfl
      simp only [Act.put, List.setIfInBounds_toArray, List.set_cons_zero, List.set_cons_succ]
      refine wpAnyH_take (i := 2) (oi := ⟨some 32, _, _, _, _, _⟩) (v := ?_) rfl (by kernel_rfl) (by kernel_rfl) (by kernel_rfl) (fun _ _ _ h => h) (Or.inl ⟨by rfl, ?_⟩) (by assumption) ?_
      rotate_left
      · intro w_ hSw; (try dsimp only at hSw); go_simp <;> with_reducible rfl
      simp only [Act.put, List.setIfInBounds_toArray, List.set_cons_zero, List.set_cons_succ]
      refine wpAnyH_take (i := 3) (oi := ⟨some 33, _, _, _, _, _⟩) (v := ?_) rfl (by kernel_rfl) (by kernel_rfl) (by kernel_rfl) (fun _ _ _ h => h) (Or.inl ⟨by rfl, ?_⟩) (by assumption) ?_
      rotate_left
      · intro w_ hSw; (try dsimp only at hSw); go_simp <;> with_reducible rfl
      simp only [Act.put, List.setIfInBounds_toArray, List.set_cons_zero, List.set_cons_succ]
      refine wpAnyH_take (i := 4) (oi := ⟨some 34, _, _, _, _, _⟩) (v := ?_) rfl (by kernel_rfl) (by kernel_rfl) (by kernel_rfl) (fun _ _ _ h => h) (Or.inl ⟨by rfl, ?_⟩) (by assumption) ?_
      rotate_left
      · intro w_ hSw; (try dsimp only at hSw); go_simp <;> with_reducible rfl
      simp only [Act.put, List.setIfInBounds_toArray, List.set_cons_zero, List.set_cons_succ]
      refine wpAnyH_take (i := 5) (oi := ⟨some 35, _, _, _, _, _⟩) (v := ?_) rfl (by kernel_rfl) (by kernel_rfl) (by kernel_rfl) (fun _ _ _ h => h) (Or.inl ⟨by rfl, ?_⟩) (by assumption) ?_
      rotate_left
      · intro w_ hSw; (try dsimp only at hSw); go_simp <;> with_reducible rfl
      simp only [Act.put, List.setIfInBounds_toArray, List.set_cons_zero, List.set_cons_succ]
      refine wpAnyH_take (i := 6) (oi := ⟨some 36, _, _, _, _, _⟩) (v := ?_) rfl (by kernel_rfl) (by kernel_rfl) (by kernel_rfl) (fun _ _ _ h => h) (Or.inl ⟨by rfl, ?_⟩) (by assumption) ?_
      rotate_left
      · intro w_ hSw; (try dsimp only at hSw); go_simp <;> with_reducible rfl
      simp only [Act.put, List.setIfInBounds_toArray, List.set_cons_zero, List.set_cons_succ]
      refine wpAnyH_take (i := 7) (oi := ⟨some 37, _, _, _, _, _⟩) (v := ?_) rfl (by kernel_rfl) (by kernel_rfl) (by kernel_rfl) (fun _ _ _ h => h) (Or.inl ⟨by rfl, ?_⟩) (by assumption) ?_
      rotate_left
      · intro w_ hSw; (try dsimp only at hSw); go_simp <;> with_reducible rfl
      simp only [Act.put, List.setIfInBounds_toArray, List.set_cons_zero, List.set_cons_succ]
      refine wpAnyH_take (i := 8) (oi := ⟨some 38, _, _, _, _, _⟩) (v := ?_) rfl (by kernel_rfl) (by kernel_rfl) (by kernel_rfl) (fun _ _ _ h => h) (Or.inl ⟨by rfl, ?_⟩) (by assumption) ?_
      rotate_left
      · intro w_ hSw; (try dsimp only at hSw); go_simp <;> with_reducible rfl
      simp only [Act.put, List.setIfInBounds_toArray, List.set_cons_zero, List.set_cons_succ]
      refine wpAnyH_take (i := 9) (oi := ⟨some 39, _, _, _, _, _⟩) (v := ?_) rfl (by kernel_rfl) (by kernel_rfl) (by kernel_rfl) (fun _ _ _ h => h) (Or.inl ⟨by rfl, ?_⟩) (by assumption) ?_
      rotate_left
      · intro w_ hSw; (try dsimp only at hSw); go_simp <;> with_reducible rfl
      simp only [Act.put, List.setIfInBounds_toArray, List.set_cons_zero, List.set_cons_succ]
      refine wpAnyH_take (i := 10) (oi := ⟨some 40, _, _, _, _, _⟩) (v := ?_) rfl (by kernel_rfl) (by kernel_rfl) (by kernel_rfl) (fun _ _ _ h => h) (Or.inl ⟨by rfl, ?_⟩) (by assumption) ?_
      rotate_left
      · intro w_ hSw; (try dsimp only at hSw); go_simp <;> with_reducible rfl
      simp only [Act.put, List.setIfInBounds_toArray, List.set_cons_zero, List.set_cons_succ]
      refine wpAnyH_take (i := 11) (oi := ⟨some 41, _, _, _, _, _⟩) (v := ?_) rfl (by kernel_rfl) (by kernel_rfl) (by kernel_rfl) (fun _ _ _ h => h) (Or.inl ⟨by rfl, ?_⟩) (by assumption) ?_
      rotate_left
      · intro w_ hSw; (try dsimp only at hSw); go_simp <;> with_reducible rfl
      simp only [Act.put, List.setIfInBounds_toArray, List.set_cons_zero, List.set_cons_succ]
      refine wpAnyH_take (i := 12) (oi := ⟨some 42, _, _, _, _, _⟩) (v := undef) rfl (by kernel_rfl) (by kernel_rfl) (by kernel_rfl) (fun _ _ _ h => h) (Or.inr ⟨by rfl, rfl⟩) (by assumption) ?_
      simp only [Act.put, List.setIfInBounds_toArray, List.set_cons_zero, List.set_cons_succ]
      refine wpAnyH_take (i := 13) (oi := ⟨some 43, _, _, _, _, _⟩) (v := undef) rfl (by kernel_rfl) (by kernel_rfl) (by kernel_rfl) (fun _ _ _ h => h) (Or.inr ⟨by rfl, rfl⟩) (by assumption) ?_
      simp only [Act.put, List.setIfInBounds_toArray, List.set_cons_zero, List.set_cons_succ]
      refine wpAnyH_take (i := 14) (oi := ⟨some 44, _, _, _, _, _⟩) (v := undef) rfl (by kernel_rfl) (by kernel_rfl) (by kernel_rfl) (fun _ _ _ h => h) (Or.inr ⟨by rfl, rfl⟩) (by assumption) ?_
      simp only [Act.put, List.setIfInBounds_toArray, List.set_cons_zero, List.set_cons_succ]
      refine wpAnyH_take (i := 15) (oi := ⟨some 45, _, _, _, _, _⟩) (v := ?_) rfl (by kernel_rfl) (by kernel_rfl) (by kernel_rfl) (fun _ _ _ h => h) (Or.inl ⟨by rfl, ?_⟩) (by assumption) ?_
      rotate_left
      · intro w_ hSw; (try dsimp only at hSw); go_simp <;> with_reducible rfl
      simp only [Act.put, List.setIfInBounds_toArray, List.set_cons_zero, List.set_cons_succ]
      refine wpAnyH_take (i := 16) (oi := ⟨some 46, _, _, _, _, _⟩) (v := ?_) rfl (by kernel_rfl) (by kernel_rfl) (by kernel_rfl) (fun _ _ _ h => h) (Or.inl ⟨by rfl, ?_⟩) (by assumption) ?_
      rotate_left
      · intro w_ hSw; (try dsimp only at hSw); go_simp <;> with_reducible rfl
      simp only [Act.put, List.setIfInBounds_toArray, List.set_cons_zero, List.set_cons_succ]
      refine wpAnyH_take (i := 17) (oi := ⟨some 47, _, _, _, _, _⟩) (v := undef) rfl (by kernel_rfl) (by kernel_rfl) (by kernel_rfl) (fun _ _ _ h => h) (Or.inr ⟨by rfl, rfl⟩) (by assumption) ?_
      simp only [Act.put, List.setIfInBounds_toArray, List.set_cons_zero, List.set_cons_succ]
      refine wpAnyH_take (i := 18) (oi := ⟨some 48, _, _, _, _, _⟩) (v := undef) rfl (by kernel_rfl) (by kernel_rfl) (by kernel_rfl) (fun _ _ _ h => h) (Or.inr ⟨by rfl, rfl⟩) (by assumption) ?_
      simp only [Act.put, List.setIfInBounds_toArray, List.set_cons_zero, List.set_cons_succ]
      refine wpAnyH_take (i := 19) (oi := ⟨some 49, _, _, _, _, _⟩) (v := undef) rfl (by kernel_rfl) (by kernel_rfl) (by kernel_rfl) (fun _ _ _ h => h) (Or.inr ⟨by rfl, rfl⟩) (by assumption) ?_
      simp only [Act.put, List.setIfInBounds_toArray, List.set_cons_zero, List.set_cons_succ]
      refine wpAnyH_take (i := 20) (oi := ⟨some 50, _, _, _, _, _⟩) (v := undef) rfl (by kernel_rfl) (by kernel_rfl) (by kernel_rfl) (fun _ _ _ h => h) (Or.inr ⟨by rfl, rfl⟩) (by assumption) ?_
      simp only [Act.put, List.setIfInBounds_toArray, List.set_cons_zero, List.set_cons_succ]
      refine wpAnyH_take (i := 21) (oi := ⟨some 51, _, _, _, _, _⟩) (v := ?_) rfl (by kernel_rfl) (by kernel_rfl) (by kernel_rfl) (fun _ _ _ h => h) (Or.inl ⟨by rfl, ?_⟩) (by assumption) ?_
      rotate_left
      · intro w_ hSw; (try dsimp only at hSw); go_simp <;> with_reducible rfl
      simp only [Act.put, List.setIfInBounds_toArray, List.set_cons_zero, List.set_cons_succ]
      refine wpAnyH_done (by kernel_rfl) ?_ _
      have HB := Lib.hid hHeld.2
      clear hHeld
      go_wp2
      go_ret
      exact ⟨by first | rfl | simp, HB.out⟩
    have z1_ : ¬ (60 : Int) < n := by omega
    have z1d : decide ((60 : Int) < n) = false := decide_eq_false z1_
    have z1e : decide ((n : Int) > 60) = false := decide_eq_false z1_
    by_cases z2 : 60 < m
    · skip
      have z2_ : (60 : Int) < m := by omega
      have z2d : decide ((60 : Int) < m) = true := decide_eq_true z2_
      have z2e : decide ((m : Int) > 60) = true := decide_eq_true z2_
      go_upto_region 3 with fail
      refine wp_region_held_drew (S := (fun W_ => (Has W_ (w.heap.size) 27 (tpC t a)) ∧ (Below w.heap.size w W_))) (by kernel_rfl) ?_ (fun hHeld => ?_)
      · exact ⟨HG0.out.draw, below_dr11 HB.out⟩
      refine wpAnyH_take (i := 0) (oi := ⟨some 30, _, _, _, _, _⟩) (v := ?_) rfl (by kernel_rfl) (by kernel_rfl) (by kernel_rfl) (fun _ _ _ h => h) (Or.inl ⟨by rfl, ?_⟩) (by assumption) ?_
      rotate_left
      · intro w_ hSw; (try dsimp only at hSw); go_simp <;> with_reducible rfl
      simp only [Act.put, List.setIfInBounds_toArray, List.set_cons_zero, List.set_cons_succ]
      refine wpAnyH_take (i := 1) (oi := ⟨some 31, _, _, _, _, _⟩) (v := ?_) rfl (by kernel_rfl) (by kernel_rfl) (by kernel_rfl) (fun _ _ _ h => h) (Or.inl ⟨by rfl, ?_⟩) (by assumption) ?_
      rotate_left
      · intro w_ hSw; (try dsimp only at hSw); go_simp <;> with_reducible rfl
      simp only [Act.put, List.setIfInBounds_toArray, List.set_cons_zero, List.set_cons_succ]
      refine wpAnyH_take (i := 2) (oi := ⟨some 32, _, _, _, _, _⟩) (v := ?_) rfl (by kernel_rfl) (by kernel_rfl) (by kernel_rfl) (fun _ _ _ h => h) (Or.inl ⟨by rfl, ?_⟩) (by assumption) ?_
      rotate_left
      · intro w_ hSw; (try dsimp only at hSw); go_simp <;> with_reducible rfl
      simp only [Act.put, List.setIfInBounds_toArray, List.set_cons_zero, List.set_cons_succ]
      refine wpAnyH_take (i := 3) (oi := ⟨some 33, _, _, _, _, _⟩) (v := ?_) rfl (by kernel_rfl) (by kernel_rfl) (by kernel_rfl) (fun _ _ _ h => h) (Or.inl ⟨by rfl, ?_⟩) (by assumption) ?_
      rotate_left
      · intro w_ hSw; (try dsimp only at hSw); go_simp <;> with_reducible rfl
      simp only [Act.put, List.setIfInBounds_toArray, List.set_cons_zero, List.set_cons_succ]
      refine wpAnyH_take (i := 4) (oi := ⟨some 34, _, _, _, _, _⟩) (v := ?_) rfl (by kernel_rfl) (by kernel_rfl) (by kernel_rfl) (fun _ _ _ h => h) (Or.inl ⟨by rfl, ?_⟩) (by assumption) ?_
      rotate_left
      · intro w_ hSw; (try dsimp only at hSw); go_simp <;> with_reducible rfl
      simp only [Act.put, List.setIfInBounds_toArray, List.set_cons_zero, List.set_cons_succ]
      refine wpAnyH_take (i := 5) (oi := ⟨some 35, _, _, _, _, _⟩) (v := ?_) rfl (by kernel_rfl) (by kernel_rfl) (by kernel_rfl) (fun _ _ _ h => h) (Or.inl ⟨by rfl, ?_⟩) (by assumption) ?_
      rotate_left
      · intro w_ hSw; (try dsimp only at hSw); go_simp <;> with_reducible rfl
      simp only [Act.put, List.setIfInBounds_toArray, List.set_cons_zero, List.set_cons_succ]
      refine wpAnyH_take (i := 6) (oi := ⟨some 36, _, _, _, _, _⟩) (v := ?_) rfl (by kernel_rfl) (by kernel_rfl) (by kernel_rfl) (fun _ _ _ h => h) (Or.inl ⟨by rfl, ?_⟩) (by assumption) ?_
      rotate_left
      · intro w_ hSw; (try dsimp only at hSw); go_simp <;> with_reducible rfl
      simp only [Act.put, List.setIfInBounds_toArray, List.set_cons_zero, List.set_cons_succ]
      refine wpAnyH_take (i := 7) (oi := ⟨some 37, _, _, _, _, _⟩) (v := ?_) rfl (by kernel_rfl) (by kernel_rfl) (by kernel_rfl) (fun _ _ _ h => h) (Or.inl ⟨by rfl, ?_⟩) (by assumption) ?_
      rotate_left
      · intro w_ hSw; (try dsimp only at hSw); go_simp <;> with_reducible rfl
      simp only [Act.put, List.setIfInBounds_toArray, List.set_cons_zero, List.set_cons_succ]
      refine wpAnyH_take (i := 8) (oi := ⟨some 38, _, _, _, _, _⟩) (v := ?_) rfl (by kernel_rfl) (by kernel_rfl) (by kernel_rfl) (fun _ _ _ h => h) (Or.inl ⟨by rfl, ?_⟩) (by assumption) ?_
      rotate_left
      · intro w_ hSw; (try dsimp only at hSw); go_simp <;> with_reducible rfl
      simp only [Act.put, List.setIfInBounds_toArray, List.set_cons_zero, List.set_cons_succ]
      refine wpAnyH_take (i := 9) (oi := ⟨some 39, _, _, _, _, _⟩) (v := ?_) rfl (by kernel_rfl) (by kernel_rfl) (by kernel_rfl) (fun _ _ _ h => h) (Or.inl ⟨by rfl, ?_⟩) (by assumption) ?_
      rotate_left
      · intro w_ hSw; (try dsimp only at hSw); go_simp <;> with_reducible rfl
      simp only [Act.put, List.setIfInBounds_toArray, List.set_cons_zero, List.set_cons_succ]
      refine wpAnyH_take (i := 10) (oi := ⟨some 40, _, _, _, _, _⟩) (v := ?_) rfl (by kernel_rfl) (by kernel_rfl) (by kernel_rfl) (fun _ _ _ h => h) (Or.inl ⟨by rfl, ?_⟩) (by assumption) ?_
      rotate_left
      · intro w_ hSw; (try dsimp only at hSw); go_simp <;> with_reducible rfl
      simp only [Act.put, List.setIfInBounds_toArray, List.set_cons_zero, List.set_cons_succ]
      refine wpAnyH_take (i := 11) (oi := ⟨some 41, _, _, _, _, _⟩) (v := ?_) rfl (by kernel_rfl) (by kernel_rfl) (by kernel_rfl) (fun _ _ _ h => h) (Or.inl ⟨by rfl, ?_⟩) (by assumption) ?_
      rotate_left
      · intro w_ hSw; (try dsimp only at hSw); go_simp <;> with_reducible rfl
      simp only [Act.put, List.setIfInBounds_toArray, List.set_cons_zero, List.set_cons_succ]
      refine wpAnyH_take (i := 12) (oi := ⟨some 42, _, _, _, _, _⟩) (v := ?_) rfl (by kernel_rfl) (by kernel_rfl) (by kernel_rfl) (fun _ _ _ h => h) (Or.inl ⟨by rfl, ?_⟩) (by assumption) ?_
      rotate_left
      · intro w_ hSw; (try dsimp only at hSw); go_simp <;> with_reducible rfl
      simp only [Act.put, List.setIfInBounds_toArray, List.set_cons_zero, List.set_cons_succ]
      refine wpAnyH_take (i := 13) (oi := ⟨some 43, _, _, _, _, _⟩) (v := ?_) rfl (by kernel_rfl) (by kernel_rfl) (by kernel_rfl) (fun _ _ _ h => h) (Or.inl ⟨by rfl, ?_⟩) (by assumption) ?_
      rotate_left
      · intro w_ hSw; (try dsimp only at hSw); go_simp <;> with_reducible rfl
      simp only [Act.put, List.setIfInBounds_toArray, List.set_cons_zero, List.set_cons_succ]
      refine wpAnyH_take (i := 14) (oi := ⟨some 44, _, _, _, _, _⟩) (v := ?_) rfl (by kernel_rfl) (by kernel_rfl) (by kernel_rfl) (fun _ _ _ h => h) (Or.inl ⟨by rfl, ?_⟩) (by assumption) ?_
      rotate_left
      · intro w_ hSw; (try dsimp only at hSw); go_simp <;> with_reducible rfl
      simp only [Act.put, List.setIfInBounds_toArray, List.set_cons_zero, List.set_cons_succ]
      refine wpAnyH_take (i := 15) (oi := ⟨some 45, _, _, _, _, _⟩) (v := ?_) rfl (by kernel_rfl) (by kernel_rfl) (by kernel_rfl) (fun _ _ _ h => h) (Or.inl ⟨by rfl, ?_⟩) (by assumption) ?_
      rotate_left
      · intro w_ hSw; (try dsimp only at hSw); go_simp <;> with_reducible rfl
      simp only [Act.put, List.setIfInBounds_toArray, List.set_cons_zero, List.set_cons_succ]
      refine wpAnyH_take (i := 16) (oi := ⟨some 46, _, _, _, _, _⟩) (v := ?_) rfl (by kernel_rfl) (by kernel_rfl) (by kernel_rfl) (fun _ _ _ h => h) (Or.inl ⟨by rfl, ?_⟩) (by assumption) ?_
      rotate_left
      · intro w_ hSw; (try dsimp only at hSw); go_simp <;> with_reducible rfl
      simp only [Act.put, List.setIfInBounds_toArray, List.set_cons_zero, List.set_cons_succ]
      refine wpAnyH_take (i := 17) (oi := ⟨some 47, _, _, _, _, _⟩) (v := undef) rfl (by kernel_rfl) (by kernel_rfl) (by kernel_rfl) (fun _ _ _ h => h) (Or.inr ⟨by rfl, rfl⟩) (by assumption) ?_
      simp only [Act.put, List.setIfInBounds_toArray, List.set_cons_zero, List.set_cons_succ]
      refine wpAnyH_take (i := 18) (oi := ⟨some 48, _, _, _, _, _⟩) (v := undef) rfl (by kernel_rfl) (by kernel_rfl) (by kernel_rfl) (fun _ _ _ h => h) (Or.inr ⟨by rfl, rfl⟩) (by assumption) ?_
      simp only [Act.put, List.setIfInBounds_toArray, List.set_cons_zero, List.set_cons_succ]
      refine wpAnyH_take (i := 19) (oi := ⟨some 49, _, _, _, _, _⟩) (v := undef) rfl (by kernel_rfl) (by kernel_rfl) (by kernel_rfl) (fun _ _ _ h => h) (Or.inr ⟨by rfl, rfl⟩) (by assumption) ?_
      simp only [Act.put, List.setIfInBounds_toArray, List.set_cons_zero, List.set_cons_succ]
      refine wpAnyH_take (i := 20) (oi := ⟨some 50, _, _, _, _, _⟩) (v := undef) rfl (by kernel_rfl) (by kernel_rfl) (by kernel_rfl) (fun _ _ _ h => h) (Or.inr ⟨by rfl, rfl⟩) (by assumption) ?_
      simp only [Act.put, List.setIfInBounds_toArray, List.set_cons_zero, List.set_cons_succ]
      refine wpAnyH_take (i := 21) (oi := ⟨some 51, _, _, _, _, _⟩) (v := ?_) rfl (by kernel_rfl) (by kernel_rfl) (by kernel_rfl) (fun _ _ _ h => h) (Or.inl ⟨by rfl, ?_⟩) (by assumption) ?_
      rotate_left
      · intro w_ hSw; (try dsimp only at hSw); go_simp <;> with_reducible rfl
      simp only [Act.put, List.setIfInBounds_toArray, List.set_cons_zero, List.set_cons_succ]
      refine wpAnyH_done (by kernel_rfl) ?_ _
      have HB := Lib.hid hHeld.2
      clear hHeld
      go_wp2
      go_ret
      exact ⟨by first | rfl | simp, HB.out⟩
    have z2_ : ¬ (60 : Int) < m := by omega
    have z2d : decide ((60 : Int) < m) = false := decide_eq_false z2_
    have z2e : decide ((m : Int) > 60) = false := decide_eq_false z2_
    obtain ⟨M, hM⟩ : ∃ M, mayB t ⟨[], 1⟩ = M := ⟨_, rfl⟩
    have HM0 := Lib.hid hM
    clear hM HQ
    go_upto_region 3 with fail
    cases M with
    | false =>
      refine wp_region_held_drew (S := (fun W_ => (Has W_ (w.heap.size) 27 (tpC t a)) ∧ (Below w.heap.size w W_))) (by kernel_rfl) ?_ (fun hHeld => ?_)
      · exact ⟨HG0.out.draw, below_dr11 HB.out⟩
      refine wpAnyH_take (i := 0) (oi := ⟨some 30, _, _, _, _, _⟩) (v := ?_) rfl (by kernel_rfl) (by kernel_rfl) (by kernel_rfl) (fun _ _ _ h => h) (Or.inl ⟨by rfl, ?_⟩) (by assumption) ?_
      rotate_left
      · intro w_ hSw; (try dsimp only at hSw); go_simp <;> with_reducible rfl
      simp only [Act.put, List.setIfInBounds_toArray, List.set_cons_zero, List.set_cons_succ]
      refine wpAnyH_take (i := 1) (oi := ⟨some 31, _, _, _, _, _⟩) (v := ?_) rfl (by kernel_rfl) (by kernel_rfl) (by kernel_rfl) (fun _ _ _ h => h) (Or.inl ⟨by rfl, ?_⟩) (by assumption) ?_
      rotate_left
      · intro w_ hSw; (try dsimp only at hSw); go_simp <;> with_reducible rfl
      simp only [Act.put, List.setIfInBounds_toArray, List.set_cons_zero, List.set_cons_succ]
      refine wpAnyH_take (i := 2) (oi := ⟨some 32, _, _, _, _, _⟩) (v := ?_) rfl (by kernel_rfl) (by kernel_rfl) (by kernel_rfl) (fun _ _ _ h => h) (Or.inl ⟨by rfl, ?_⟩) (by assumption) ?_
      rotate_left
      · intro w_ hSw; (try dsimp only at hSw); go_simp <;> with_reducible rfl
      simp only [Act.put, List.setIfInBounds_toArray, List.set_cons_zero, List.set_cons_succ]
      refine wpAnyH_take (i := 3) (oi := ⟨some 33, _, _, _, _, _⟩) (v := ?_) rfl (by kernel_rfl) (by kernel_rfl) (by kernel_rfl) (fun _ _ _ h => h) (Or.inl ⟨by rfl, ?_⟩) (by assumption) ?_
      rotate_left
      · intro w_ hSw; (try dsimp only at hSw); go_simp <;> with_reducible rfl
      simp only [Act.put, List.setIfInBounds_toArray, List.set_cons_zero, List.set_cons_succ]
      refine wpAnyH_take (i := 4) (oi := ⟨some 34, _, _, _, _, _⟩) (v := ?_) rfl (by kernel_rfl) (by kernel_rfl) (by kernel_rfl) (fun _ _ _ h => h) (Or.inl ⟨by rfl, ?_⟩) (by assumption) ?_
      rotate_left
      · intro w_ hSw; (try dsimp only at hSw); go_simp <;> with_reducible rfl
      simp only [Act.put, List.setIfInBounds_toArray, List.set_cons_zero, List.set_cons_succ]
      refine wpAnyH_take (i := 5) (oi := ⟨some 35, _, _, _, _, _⟩) (v := ?_) rfl (by kernel_rfl) (by kernel_rfl) (by kernel_rfl) (fun _ _ _ h => h) (Or.inl ⟨by rfl, ?_⟩) (by assumption) ?_
      rotate_left
      · intro w_ hSw; (try dsimp only at hSw); go_simp <;> with_reducible rfl
      simp only [Act.put, List.setIfInBounds_toArray, List.set_cons_zero, List.set_cons_succ]
      refine wpAnyH_take (i := 6) (oi := ⟨some 36, _, _, _, _, _⟩) (v := ?_) rfl (by kernel_rfl) (by kernel_rfl) (by kernel_rfl) (fun _ _ _ h => h) (Or.inl ⟨by rfl, ?_⟩) (by assumption) ?_
      rotate_left
      · intro w_ hSw; (try dsimp only at hSw); go_simp <;> with_reducible rfl
      simp only [Act.put, List.setIfInBounds_toArray, List.set_cons_zero, List.set_cons_succ]
      refine wpAnyH_take (i := 7) (oi := ⟨some 37, _, _, _, _, _⟩) (v := ?_) rfl (by kernel_rfl) (by kernel_rfl) (by kernel_rfl) (fun _ _ _ h => h) (Or.inl ⟨by rfl, ?_⟩) (by assumption) ?_
      rotate_left
      · intro w_ hSw; (try dsimp only at hSw); go_simp <;> with_reducible rfl
      simp only [Act.put, List.setIfInBounds_toArray, List.set_cons_zero, List.set_cons_succ]
      refine wpAnyH_take (i := 8) (oi := ⟨some 38, _, _, _, _, _⟩) (v := ?_) rfl (by kernel_rfl) (by kernel_rfl) (by kernel_rfl) (fun _ _ _ h => h) (Or.inl ⟨by rfl, ?_⟩) (by assumption) ?_
      rotate_left
      · intro w_ hSw; (try dsimp only at hSw); go_simp <;> with_reducible rfl
      simp only [Act.put, List.setIfInBounds_toArray, List.set_cons_zero, List.set_cons_succ]
      refine wpAnyH_take (i := 9) (oi := ⟨some 39, _, _, _, _, _⟩) (v := ?_) rfl (by kernel_rfl) (by kernel_rfl) (by kernel_rfl) (fun _ _ _ h => h) (Or.inl ⟨by rfl, ?_⟩) (by assumption) ?_
      rotate_left
      · intro w_ hSw; (try dsimp only at hSw); go_simp <;> with_reducible rfl
      simp only [Act.put, List.setIfInBounds_toArray, List.set_cons_zero, List.set_cons_succ]
      refine wpAnyH_take (i := 10) (oi := ⟨some 40, _, _, _, _, _⟩) (v := ?_) rfl (by kernel_rfl) (by kernel_rfl) (by kernel_rfl) (fun _ _ _ h => h) (Or.inl ⟨by rfl, ?_⟩) (by assumption) ?_
      rotate_left
      · intro w_ hSw; (try dsimp only at hSw); go_simp <;> with_reducible rfl
      simp only [Act.put, List.setIfInBounds_toArray, List.set_cons_zero, List.set_cons_succ]
      refine wpAnyH_take (i := 11) (oi := ⟨some 41, _, _, _, _, _⟩) (v := ?_) rfl (by kernel_rfl) (by kernel_rfl) (by kernel_rfl) (fun _ _ _ h => h) (Or.inl ⟨by rfl, ?_⟩) (by assumption) ?_
      rotate_left
      · intro w_ hSw; (try dsimp only at hSw); go_simp <;> with_reducible rfl
      simp only [Act.put, List.setIfInBounds_toArray, List.set_cons_zero, List.set_cons_succ]
      refine wpAnyH_take (i := 12) (oi := ⟨some 42, _, _, _, _, _⟩) (v := ?_) rfl (by kernel_rfl) (by kernel_rfl) (by kernel_rfl) (fun _ _ _ h => h) (Or.inl ⟨by rfl, ?_⟩) (by assumption) ?_
      rotate_left
      · intro w_ hSw; (try dsimp only at hSw); go_simp <;> with_reducible rfl
      simp only [Act.put, List.setIfInBounds_toArray, List.set_cons_zero, List.set_cons_succ]
      refine wpAnyH_take (i := 13) (oi := ⟨some 43, _, _, _, _, _⟩) (v := ?_) rfl (by kernel_rfl) (by kernel_rfl) (by kernel_rfl) (fun _ _ _ h => h) (Or.inl ⟨by rfl, ?_⟩) (by assumption) ?_
      rotate_left
      · intro w_ hSw; (try dsimp only at hSw); go_simp <;> with_reducible rfl
      simp only [Act.put, List.setIfInBounds_toArray, List.set_cons_zero, List.set_cons_succ]
      refine wpAnyH_take (i := 14) (oi := ⟨some 44, _, _, _, _, _⟩) (v := ?_) rfl (by kernel_rfl) (by kernel_rfl) (by kernel_rfl) (fun _ _ _ h => h) (Or.inl ⟨by rfl, ?_⟩) (by assumption) ?_
      rotate_left
      · intro w_ hSw; (try dsimp only at hSw); go_simp <;> with_reducible rfl
      simp only [Act.put, List.setIfInBounds_toArray, List.set_cons_zero, List.set_cons_succ]
      refine wpAnyH_take (i := 15) (oi := ⟨some 45, _, _, _, _, _⟩) (v := ?_) rfl (by kernel_rfl) (by kernel_rfl) (by kernel_rfl) (fun _ _ _ h => h) (Or.inl ⟨by rfl, ?_⟩) (by assumption) ?_
      rotate_left
      · intro w_ hSw; (try dsimp only at hSw); go_simp <;> with_reducible rfl
      simp only [Act.put, List.setIfInBounds_toArray, List.set_cons_zero, List.set_cons_succ]
      refine wpAnyH_take (i := 16) (oi := ⟨some 46, _, _, _, _, _⟩) (v := ?_) rfl (by kernel_rfl) (by kernel_rfl) (by kernel_rfl) (fun _ _ _ h => h) (Or.inl ⟨by rfl, ?_⟩) (by assumption) ?_
      rotate_left
      · intro w_ hSw; (try dsimp only at hSw); go_simp <;> with_reducible rfl
      simp only [Act.put, List.setIfInBounds_toArray, List.set_cons_zero, List.set_cons_succ]
      refine wpAnyH_take (i := 17) (oi := ⟨some 47, _, _, _, _, _⟩) (v := .agg (tpC t a)) rfl (by kernel_rfl) (by kernel_rfl) (by kernel_rfl) (fun _ _ _ h => h) (yields_load_row11 27 _ rfl (w.heap.size) rfl 27 (tpC t a) _ (fun _ ⟨h_, _⟩ => h_) Try.underlying27 rfl (by kernel_rfl) (by rfl)) (by assumption) ?_
      simp only [Act.put, List.setIfInBounds_toArray, List.set_cons_zero, List.set_cons_succ]
      refine wpAnyH_ready (rs := [18]) (by kernel_rfl) (by simp) ?_
      refine AllReadyH.cons (o := ⟨some 48, _, _, _, _, _⟩) rfl (fun K hK => ?_) ?_
      · go_simp
        obtain ⟨s0, s1⟩ := hHeld
        refine (olc_new _).mono ?_
        rintro e_ q1 ⟨X0, x0, rfl, hl_, hb_⟩
        have HN0 := Lib.hid (hl_)
        go_wp2_with fail
        refine hK.out _ _ ?_ (fun hHeld => ?_)
        · exact ⟨s0.under hb_ s0.lt, s1.trans (hb_.mono s1.size)⟩
        clear hK K s0 s1
        try simp only [Act.put, List.setIfInBounds_toArray, List.set_cons_zero, List.set_cons_succ]
        refine wpAnyH_ready (rs := [19]) (by kernel_rfl) (by simp) ?_
        refine AllReadyH.cons (o := ⟨some 49, _, _, _, _, _⟩) rfl (fun K hK => ?_) ?_
        · go_simp
          obtain ⟨s0, s1⟩ := hHeld
          refine (olc_may t a [] 1 X0 0 x0 _ (HT.out _ s1) HLT.out HCJ.out HN0.out.1 HN0.out.2.1 (by omega)).mono ?_
          rw [HM0.out]
          rintro e_ q2 ⟨rfl, hb_⟩
          have HN0 := Lib.hid (HN0.out.under hb_)
          go_wp2_with fail
          refine hK.out _ _ ?_ (fun hHeld => ?_)
          · exact ⟨s0.under hb_ s0.lt, s1.trans (hb_.mono s1.size)⟩
          clear hK K s0 s1
          try simp only [Act.put, List.setIfInBounds_toArray, List.set_cons_zero, List.set_cons_succ]
          refine wpAnyH_take (i := 20) (oi := ⟨some 50, _, _, _, _, _⟩) (v := ?_) rfl (by kernel_rfl) (by kernel_rfl) (by kernel_rfl) (fun _ _ _ h => h) (Or.inl ⟨by rfl, ?_⟩) (by assumption) ?_
          rotate_left
          · intro w_ hSw; (try dsimp only at hSw); go_simp <;> with_reducible rfl
          simp only [Act.put, List.setIfInBounds_toArray, List.set_cons_zero, List.set_cons_succ]
          refine wpAnyH_take (i := 21) (oi := ⟨some 51, _, _, _, _, _⟩) (v := ?_) rfl (by kernel_rfl) (by kernel_rfl) (by kernel_rfl) (fun _ _ _ h => h) (Or.inl ⟨by rfl, ?_⟩) (by assumption) ?_
          rotate_left
          · intro w_ hSw; (try dsimp only at hSw); go_simp <;> with_reducible rfl
          simp only [Act.put, List.setIfInBounds_toArray, List.set_cons_zero, List.set_cons_succ]
          refine wpAnyH_done (by kernel_rfl) ?_ _
          have HB := Lib.hid hHeld.2
          clear hHeld
          go_wp2
          go_ret
          exact ⟨by first | rfl | simp, HB.out⟩
        exact AllReadyH.nil
      exact AllReadyH.nil
    | true =>
      go_cut [51] (fun s51 wx => s51 = .bool false ∧ Has wx (w.heap.size) 27 (tpC t a) ∧ Below w.heap.size w wx)
      case first =>
        refine wp_region_held_drew (S := (fun W_ => (Has W_ (w.heap.size) 27 (tpC t a)) ∧ (Below w.heap.size w W_))) (by kernel_rfl) ?_ (fun hHeld => ?_)
        · exact ⟨HG0.out.draw, below_dr11 HB.out⟩
        refine wpAnyH_take (i := 0) (oi := ⟨some 30, _, _, _, _, _⟩) (v := ?_) rfl (by kernel_rfl) (by kernel_rfl) (by kernel_rfl) (fun _ _ _ h => h) (Or.inl ⟨by rfl, ?_⟩) (by assumption) ?_
        rotate_left
        · intro w_ hSw; (try dsimp only at hSw); go_simp <;> with_reducible rfl
        simp only [Act.put, List.setIfInBounds_toArray, List.set_cons_zero, List.set_cons_succ]
        refine wpAnyH_take (i := 1) (oi := ⟨some 31, _, _, _, _, _⟩) (v := ?_) rfl (by kernel_rfl) (by kernel_rfl) (by kernel_rfl) (fun _ _ _ h => h) (Or.inl ⟨by rfl, ?_⟩) (by assumption) ?_
        rotate_left
        · intro w_ hSw; (try dsimp only at hSw); go_simp <;> with_reducible rfl
        simp only [Act.put, List.setIfInBounds_toArray, List.set_cons_zero, List.set_cons_succ]
        refine wpAnyH_take (i := 2) (oi := ⟨some 32, _, _, _, _, _⟩) (v := ?_) rfl (by kernel_rfl) (by kernel_rfl) (by kernel_rfl) (fun _ _ _ h => h) (Or.inl ⟨by rfl, ?_⟩) (by assumption) ?_
        rotate_left
        · intro w_ hSw; (try dsimp only at hSw); go_simp <;> with_reducible rfl
        simp only [Act.put, List.setIfInBounds_toArray, List.set_cons_zero, List.set_cons_succ]
        refine wpAnyH_take (i := 3) (oi := ⟨some 33, _, _, _, _, _⟩) (v := ?_) rfl (by kernel_rfl) (by kernel_rfl) (by kernel_rfl) (fun _ _ _ h => h) (Or.inl ⟨by rfl, ?_⟩) (by assumption) ?_
        rotate_left
        · intro w_ hSw; (try dsimp only at hSw); go_simp <;> with_reducible rfl
        simp only [Act.put, List.setIfInBounds_toArray, List.set_cons_zero, List.set_cons_succ]
        refine wpAnyH_take (i := 4) (oi := ⟨some 34, _, _, _, _, _⟩) (v := ?_) rfl (by kernel_rfl) (by kernel_rfl) (by kernel_rfl) (fun _ _ _ h => h) (Or.inl ⟨by rfl, ?_⟩) (by assumption) ?_
        rotate_left
        · intro w_ hSw; (try dsimp only at hSw); go_simp <;> with_reducible rfl
        simp only [Act.put, List.setIfInBounds_toArray, List.set_cons_zero, List.set_cons_succ]
        refine wpAnyH_take (i := 5) (oi := ⟨some 35, _, _, _, _, _⟩) (v := ?_) rfl (by kernel_rfl) (by kernel_rfl) (by kernel_rfl) (fun _ _ _ h => h) (Or.inl ⟨by rfl, ?_⟩) (by assumption) ?_
        rotate_left
        · intro w_ hSw; (try dsimp only at hSw); go_simp <;> with_reducible rfl
        simp only [Act.put, List.setIfInBounds_toArray, List.set_cons_zero, List.set_cons_succ]
        refine wpAnyH_take (i := 6) (oi := ⟨some 36, _, _, _, _, _⟩) (v := ?_) rfl (by kernel_rfl) (by kernel_rfl) (by kernel_rfl) (fun _ _ _ h => h) (Or.inl ⟨by rfl, ?_⟩) (by assumption) ?_
        rotate_left
        · intro w_ hSw; (try dsimp only at hSw); go_simp <;> with_reducible rfl
        simp only [Act.put, List.setIfInBounds_toArray, List.set_cons_zero, List.set_cons_succ]
        refine wpAnyH_take (i := 7) (oi := ⟨some 37, _, _, _, _, _⟩) (v := ?_) rfl (by kernel_rfl) (by kernel_rfl) (by kernel_rfl) (fun _ _ _ h => h) (Or.inl ⟨by rfl, ?_⟩) (by assumption) ?_
        rotate_left
        · intro w_ hSw; (try dsimp only at hSw); go_simp <;> with_reducible rfl
        simp only [Act.put, List.setIfInBounds_toArray, List.set_cons_zero, List.set_cons_succ]
        refine wpAnyH_take (i := 8) (oi := ⟨some 38, _, _, _, _, _⟩) (v := ?_) rfl (by kernel_rfl) (by kernel_rfl) (by kernel_rfl) (fun _ _ _ h => h) (Or.inl ⟨by rfl, ?_⟩) (by assumption) ?_
        rotate_left
        · intro w_ hSw; (try dsimp only at hSw); go_simp <;> with_reducible rfl
        simp only [Act.put, List.setIfInBounds_toArray, List.set_cons_zero, List.set_cons_succ]
        refine wpAnyH_take (i := 9) (oi := ⟨some 39, _, _, _, _, _⟩) (v := ?_) rfl (by kernel_rfl) (by kernel_rfl) (by kernel_rfl) (fun _ _ _ h => h) (Or.inl ⟨by rfl, ?_⟩) (by assumption) ?_
        rotate_left
        · intro w_ hSw; (try dsimp only at hSw); go_simp <;> with_reducible rfl
        simp only [Act.put, List.setIfInBounds_toArray, List.set_cons_zero, List.set_cons_succ]
        refine wpAnyH_take (i := 10) (oi := ⟨some 40, _, _, _, _, _⟩) (v := ?_) rfl (by kernel_rfl) (by kernel_rfl) (by kernel_rfl) (fun _ _ _ h => h) (Or.inl ⟨by rfl, ?_⟩) (by assumption) ?_
        rotate_left
        · intro w_ hSw; (try dsimp only at hSw); go_simp <;> with_reducible rfl
        simp only [Act.put, List.setIfInBounds_toArray, List.set_cons_zero, List.set_cons_succ]
        refine wpAnyH_take (i := 11) (oi := ⟨some 41, _, _, _, _, _⟩) (v := ?_) rfl (by kernel_rfl) (by kernel_rfl) (by kernel_rfl) (fun _ _ _ h => h) (Or.inl ⟨by rfl, ?_⟩) (by assumption) ?_
        rotate_left
        · intro w_ hSw; (try dsimp only at hSw); go_simp <;> with_reducible rfl
        simp only [Act.put, List.setIfInBounds_toArray, List.set_cons_zero, List.set_cons_succ]
        refine wpAnyH_take (i := 12) (oi := ⟨some 42, _, _, _, _, _⟩) (v := ?_) rfl (by kernel_rfl) (by kernel_rfl) (by kernel_rfl) (fun _ _ _ h => h) (Or.inl ⟨by rfl, ?_⟩) (by assumption) ?_
        rotate_left
        · intro w_ hSw; (try dsimp only at hSw); go_simp <;> with_reducible rfl
        simp only [Act.put, List.setIfInBounds_toArray, List.set_cons_zero, List.set_cons_succ]
        refine wpAnyH_take (i := 13) (oi := ⟨some 43, _, _, _, _, _⟩) (v := ?_) rfl (by kernel_rfl) (by kernel_rfl) (by kernel_rfl) (fun _ _ _ h => h) (Or.inl ⟨by rfl, ?_⟩) (by assumption) ?_
        rotate_left
        · intro w_ hSw; (try dsimp only at hSw); go_simp <;> with_reducible rfl
        simp only [Act.put, List.setIfInBounds_toArray, List.set_cons_zero, List.set_cons_succ]
        refine wpAnyH_take (i := 14) (oi := ⟨some 44, _, _, _, _, _⟩) (v := ?_) rfl (by kernel_rfl) (by kernel_rfl) (by kernel_rfl) (fun _ _ _ h => h) (Or.inl ⟨by rfl, ?_⟩) (by assumption) ?_
        rotate_left
        · intro w_ hSw; (try dsimp only at hSw); go_simp <;> with_reducible rfl
        simp only [Act.put, List.setIfInBounds_toArray, List.set_cons_zero, List.set_cons_succ]
        refine wpAnyH_take (i := 15) (oi := ⟨some 45, _, _, _, _, _⟩) (v := ?_) rfl (by kernel_rfl) (by kernel_rfl) (by kernel_rfl) (fun _ _ _ h => h) (Or.inl ⟨by rfl, ?_⟩) (by assumption) ?_
        rotate_left
        · intro w_ hSw; (try dsimp only at hSw); go_simp <;> with_reducible rfl
        simp only [Act.put, List.setIfInBounds_toArray, List.set_cons_zero, List.set_cons_succ]
        refine wpAnyH_take (i := 16) (oi := ⟨some 46, _, _, _, _, _⟩) (v := ?_) rfl (by kernel_rfl) (by kernel_rfl) (by kernel_rfl) (fun _ _ _ h => h) (Or.inl ⟨by rfl, ?_⟩) (by assumption) ?_
        rotate_left
        · intro w_ hSw; (try dsimp only at hSw); go_simp <;> with_reducible rfl
        simp only [Act.put, List.setIfInBounds_toArray, List.set_cons_zero, List.set_cons_succ]
        refine wpAnyH_take (i := 17) (oi := ⟨some 47, _, _, _, _, _⟩) (v := .agg (tpC t a)) rfl (by kernel_rfl) (by kernel_rfl) (by kernel_rfl) (fun _ _ _ h => h) (yields_load_row11 27 _ rfl (w.heap.size) rfl 27 (tpC t a) _ (fun _ ⟨h_, _⟩ => h_) Try.underlying27 rfl (by kernel_rfl) (by rfl)) (by assumption) ?_
        simp only [Act.put, List.setIfInBounds_toArray, List.set_cons_zero, List.set_cons_succ]
        refine wpAnyH_ready (rs := [18]) (by kernel_rfl) (by simp) ?_
        refine AllReadyH.cons (o := ⟨some 48, _, _, _, _, _⟩) rfl (fun K hK => ?_) ?_
        · go_simp
          obtain ⟨s0, s1⟩ := hHeld
          refine (olc_new _).mono ?_
          rintro e_ q1 ⟨X0, x0, rfl, hl_, hb_⟩
          have HN0 := Lib.hid (hl_)
          go_wp2_with fail
          refine hK.out _ _ ?_ (fun hHeld => ?_)
          · exact ⟨s0.under hb_ s0.lt, s1.trans (hb_.mono s1.size)⟩
          clear hK K s0 s1
          try simp only [Act.put, List.setIfInBounds_toArray, List.set_cons_zero, List.set_cons_succ]
          refine wpAnyH_ready (rs := [19]) (by kernel_rfl) (by simp) ?_
          refine AllReadyH.cons (o := ⟨some 49, _, _, _, _, _⟩) rfl (fun K hK => ?_) ?_
          · go_simp
            obtain ⟨s0, s1⟩ := hHeld
            refine (olc_may t a [] 1 X0 0 x0 _ (HT.out _ s1) HLT.out HCJ.out HN0.out.1 HN0.out.2.1 (by omega)).mono ?_
            rw [HM0.out]
            rintro e_ q2 ⟨rfl, hb_⟩
            have HN0 := Lib.hid (HN0.out.under hb_)
            go_wp2_with fail
            refine hK.out _ _ ?_ (fun hHeld => ?_)
            · exact ⟨s0.under hb_ s0.lt, s1.trans (hb_.mono s1.size)⟩
            clear hK K s0 s1
            try simp only [Act.put, List.setIfInBounds_toArray, List.set_cons_zero, List.set_cons_succ]
            refine wpAnyH_take (i := 20) (oi := ⟨some 50, _, _, _, _, _⟩) (v := ?_) rfl (by kernel_rfl) (by kernel_rfl) (by kernel_rfl) (fun _ _ _ h => h) (Or.inl ⟨by rfl, ?_⟩) (by assumption) ?_
            rotate_left
            · intro w_ hSw; (try dsimp only at hSw); go_simp <;> with_reducible rfl
            simp only [Act.put, List.setIfInBounds_toArray, List.set_cons_zero, List.set_cons_succ]
            refine wpAnyH_take (i := 21) (oi := ⟨some 51, _, _, _, _, _⟩) (v := ?_) rfl (by kernel_rfl) (by kernel_rfl) (by kernel_rfl) (fun _ _ _ h => h) (Or.inl ⟨by rfl, ?_⟩) (by assumption) ?_
            rotate_left
            · intro w_ hSw; (try dsimp only at hSw); go_simp <;> with_reducible rfl
            simp only [Act.put, List.setIfInBounds_toArray, List.set_cons_zero, List.set_cons_succ]
            refine wpAnyH_done (by kernel_rfl) ?_ _
            go_wp2_with fail
            go_meet
            exact ⟨rfl, hHeld⟩
          exact AllReadyH.nil
        exact AllReadyH.nil
      case rest =>
        obtain ⟨rfl, hx_, hb_⟩ := hcut
        have HG0 := Lib.hid hx_; have HB := Lib.hid hb_
        have HN := Lib.hid (show n ≤ 60 by omega)
        have HMB := Lib.hid (show m ≤ 60 by omega)
        clear hx_ hb_ z1 z1_ z1d z1e z2 z2_ z2d z2e
        obtain ⟨w3, hw3⟩ : ∃ w3, w3 = wc := ⟨_, rfl⟩
        subst hw3
        obtain ⟨Z, hZ⟩ : ∃ Z, playI t ⟨[], 1⟩ l = Z := ⟨_, rfl⟩
        have HMZ := Lib.hid (show mayB t Z = true from by rw [← hZ]; exact play_may l HM0.out)
        have HZ := Lib.hid hZ
        clear hZ
        have hk := play16_any t a l A n c w3 (HT.out _ HB.out) HLT.out HCJ.out (HS.out _ HB.out) (by have := HN.out; omega) HM0.out
        rw [HZ.out] at hk
        have HK := Lib.hid hk
        clear hk
        go_upto_region 5 with fail
        go_wp2_with (first | (with_reducible refine wpList_load_row (o := ⟨some 54, _, _, _, _, _⟩) rfl 27 _ rfl (w.heap.size) rfl 27 (tpC t a) (0, 0) _ (HG0.out).raw11 Try.underlying27 rfl (by kernel_rfl) ?_))
        refine HK.out.mono ?_
        rintro e_ v1 ⟨X1, k1_, x1, rfl, hl_, hb⟩
        dsimp only at hl_ ⊢
        clear HK
        obtain ⟨zl, zn⟩ := Z
        dsimp only at hl_ ⊢
        have HL1 := Lib.hid hl_
        clear hl_
        have HGL := Lib.hid (show w.heap.size < v1.heap.size from by have h1_ := HG0.out.lt; have h2_ := hb.size; omega)
        have HGW := Lib.hid (show w.heap.size ≤ v1.heap.size from (HB.out.trans (hb.mono HB.out.size)).size)
        have hm : Has (v1.alloc (.cells #[.slice none 0 0, .int .i64 0] 34)) v1.heap.size 34 #[.slice none 0 0, .int .i64 0] := Has.made _ _ _
        have HM := Lib.hid hm
        obtain ⟨u1, hu1⟩ : ∃ u_, (v1.alloc (.cells #[.slice none 0 0, .int .i64 0] 34)).setRow v1.heap.size #[.slice X1 k1_ x1, .int .i64 zn] = u_ := ⟨_, rfl⟩
        have hbu : Below v1.heap.size v1 u1 := by rw [← hu1]; exact below_row (g := v1.heap.size) ((Below.refl _ _).alloc (Nat.le_refl _) _) (Nat.le_refl _) _
        have HX1 := Lib.hid (show Has u1 v1.heap.size 34 #[.slice X1 k1_ x1, .int .i64 zn] from by rw [← hu1]; exact has_row11 hm _)
        have hstep := hb.trans (hbu.mono hb.size)
        have HB := Lib.hid (HB.out.trans (hstep.mono HB.out.size))
        have HG0 := Lib.hid (HG0.out.under hstep HG0.out.lt)
        have HL1 := Lib.hid (HL1.out.under hbu)
        have HUU := Lib.hid hu1
        clear hm hbu hb hstep hu1
        go_upto_region 6 with (with_reducible refine wpList_store_rowTo (o := ⟨none, _, _, _, _, _⟩) rfl 34 _ _ rfl rfl (v1.heap.size) #[.slice X1 k1_ x1, .int .i64 zn] rfl rfl 34 _ (HM.out).raw11 (by kernel_rfl) (by kernel_rfl) (by kernel_rfl) ?_)
        rw [HUU.out]
        clear HUU HM
        obtain ⟨v1g, hv1g⟩ : ∃ g, v1.heap.size = g := ⟨_, rfl⟩
        rw [hv1g] at HX1 HGW HGL
        simp only [hv1g]
        clear hv1g
        have HK1 := Lib.hid (show zl.length = k1_ ∧ k1_ ≤ 24 from by have h1_ := HL1.out.1.1; have h2_ := (may_iff.1 HMZ.out).few; (try dsimp only at h2_); omega)
        obtain ⟨E, hE⟩ : ∃ E, setE t ⟨zl, zn⟩ route train = E := ⟨_, rfl⟩
        have HE := Lib.hid hE
        clear hE
        obtain ⟨⟨el, en⟩, eo, ee⟩ := E
        have hk := olc_set t a zl zn X1 k1_ x1 u1 route train (HT.out _ HB.out) HLT.out HCJ.out HL1.out.1 HL1.out.2.1 (by have := HK1.out; omega)
        rw [HE.out] at hk
        have HK := Lib.hid hk
        clear hk
        go_wp2_with (first | (with_reducible refine wpList_load_row (o := ⟨some 60, _, _, _, _, _⟩) rfl 27 _ rfl (w.heap.size) rfl 27 (tpC t a) (0, 0) _ (HG0.out).raw11 Try.underlying27 rfl (by kernel_rfl) ?_) | (with_reducible refine wpList_load_row (o := ⟨some 61, _, _, _, _, _⟩) rfl 34 _ rfl (v1g) rfl 34 #[.slice X1 k1_ x1, .int .i64 zn] (0, 0) _ (HX1.out).raw11 Try.underlying34 rfl (by kernel_rfl) ?_))
        refine HK.out.mono ?_
        rintro e_ v2 ⟨X2, k2, x2, rfl, hl_, hb⟩
        dsimp only at hl_ ⊢
        clear HK HL1 HK1
        have HX1 := Lib.hid (HX1.out.under hb HX1.out.lt)
        have HG0 := Lib.hid (HG0.out.under hb HG0.out.lt)
        have HB := Lib.hid (HB.out.trans (hb.mono HB.out.size))
        clear hb
        obtain ⟨u2, hu2⟩ : ∃ u2, v2.setRow v1g #[.slice X2 k2 x2, .int .i64 en] = u2 := ⟨_, rfl⟩
        have HU2 := Lib.hid hu2
        have HG2 := Lib.hid (show Has u2 (w.heap.size) 27 (tpC t a) from by rw [← hu2]; exact has_rowo11 HG0.out (by have h1_ := HGL.out; omega) _)
        have HX := Lib.hid (show Has u2 v1g 34 #[.slice X2 k2 x2, .int .i64 en] from by rw [← hu2]; exact has_row11 HX1.out _)
        have HK := Lib.hid (show LkT u2 X2 k2 x2 el from by rw [← hu2]; exact LkT.row hl_ HX1.out (by decide) _)
        have HB2 := Lib.hid (show Below w.heap.size w u2 from by rw [← hu2]; exact below_row (g := v1g) HB.out HGW.out _)
        skip
        clear hu2 hl_
        go_upto_region 7 with (with_reducible refine wpList_store_rowTo (o := ⟨none, _, _, _, _, _⟩) rfl 34 _ _ rfl rfl (v1g) #[.slice X2 k2 x2, .int .i64 en] rfl rfl 34 _ (HX1.out).raw11 (by kernel_rfl) (by kernel_rfl) (by kernel_rfl) ?_)
        rw [HU2.out]
        clear HU2 HX1 HB HG0
        have HG0 := HG2
        clear HG2
        have HB := HB2
        clear HB2
        by_cases z0 : ee = 0
        rotate_left
        · have q0 : (ee != 0) = true := by simp [z0]
          go_wp2
          go_ret
          exact ⟨by first | rfl | simp, HB.out⟩
        subst z0
        have HS_ := Lib.hid (show eo = zn ∧ HasK t ⟨route, train, zn⟩ ⟨el, en⟩ from by have h_ := set_may (t := t) (x := ⟨zl, zn⟩) (route := route) (train := train) (by rw [HE.out]); have h3_ := has_set (t := t) (x := ⟨zl, zn⟩) (route := route) (train := train) (by rw [HE.out]); have h2_ := HE.out.symm.trans h_.1; simp only [Prod.mk.injEq] at h2_; rw [HE.out] at h3_; exact ⟨h2_.2.1, h3_⟩)
        obtain rfl := HS_.out.1
        have HKK := Lib.hid HS_.out.2
        clear HS_ HE HMZ HZ
        have hm0 : (0 : Int) ≤ m := by omega
        go_upto_region 10 with fail
        go_wp2
        go_loopg [17] m (fun kk v17 wl => ∃ (i : Nat) (X : Option Addr) (k x : Nat) (yl : List Lc3) (yn : Int), i ≤ m ∧ m - i ≤ kk ∧ v17 = .int .i64 i ∧ Hid (HasK t ⟨route, train, eo⟩ ⟨yl, yn⟩) ∧ Hid (Has wl (w.heap.size) 27 (tpC t a)) ∧ Hid (Has wl v1g 34 #[.slice X k x, .int .i64 yn]) ∧ Hid (LkT wl X k x yl) ∧ Hid (Below w.heap.size w wl))
        case atStart => exact ⟨0, X2, k2, x2, el, en, by omega, by omega, rfl, HKK, HG0, HX, HK, HB⟩
        case round =>
          clear HKK HX HK HB HG0
          obtain ⟨i, X, k, x, yl, yn, hi, hik, rfl, HKK, HG0, HX, HK, HB⟩ := hrel
          obtain ⟨k1, hk1⟩ : ∃ k1, k1 = gk := ⟨_, rfl⟩
          subst hk1
          obtain ⟨wv, hwv⟩ : ∃ wv, wv = wr := ⟨_, rfl⟩
          subst hwv
          have HKL : Hid (yl.length = k ∧ k ≤ 24) := Lib.hid (by have h1_ := HK.out.1.1; have h2_ := (may_iff.1 HKK.out.may).few; (try dsimp only at h2_); omega)
          by_cases hlt : i < m
          rotate_left
          · obtain rfl : i = m := by omega
            have x1 : ¬ (i : Int) < i := by omega
            clear hlt hi hik
            have HGO := Lib.hid HKK.out.gone
            obtain ⟨F, hF⟩ : ∃ F, freeE t ⟨yl, yn⟩ eo = F := ⟨_, rfl⟩
            have HF := Lib.hid hF
            rw [show (⟨route, train, eo⟩ : Lc3).no = eo from rfl, hF] at HGO
            clear hF
            obtain ⟨⟨fl, fn⟩, fe⟩ := F
            obtain rfl : fe = 0 := HGO.out.1
            have hk := olc_free t a yl yn X k x wv eo (HT.out _ HB.out) HLT.out HCJ.out HK.out.1 HK.out.2.1 (by have := HKL.out; omega)
            rw [HF.out] at hk
            have HC := Lib.hid hk
            clear hk
            go_wp2_with (first | (with_reducible refine wpList_load_row (o := ⟨some 173, _, _, _, _, _⟩) rfl 27 _ rfl (w.heap.size) rfl 27 (tpC t a) (0, 0) _ (HG0.out).raw11 Try.underlying27 rfl (by kernel_rfl) ?_) | (with_reducible refine wpList_load_row (o := ⟨some 174, _, _, _, _, _⟩) rfl 34 _ rfl (v1g) rfl 34 #[.slice X k x, .int .i64 yn] (0, 0) _ (HX.out).raw11 Try.underlying34 rfl (by kernel_rfl) ?_))
            refine HC.out.mono ?_
            rintro e_ v3 ⟨X3, k3, x3, rfl, hl_, hb⟩
            dsimp only at hl_ ⊢
            have HL3 := Lib.hid (show k3 + 1 = k from by have h1_ := hl_.1.1; have h2_ := HGO.out.2; have h3_ := HKL.out; (try dsimp only at h2_); omega)
            clear HC hl_ x1
            have hm : Has (v3.alloc (.cells #[.slice none 0 0, .int .i64 0] 34)) v3.heap.size 34 #[.slice none 0 0, .int .i64 0] := Has.made _ _ _
            have HM := Lib.hid hm
            obtain ⟨u3, hu3⟩ : ∃ u_, (v3.alloc (.cells #[.slice none 0 0, .int .i64 0] 34)).setRow v3.heap.size #[.slice X3 k3 x3, .int .i64 fn] = u_ := ⟨_, rfl⟩
            have hbu : Below v3.heap.size v3 u3 := by rw [← hu3]; exact below_row (g := v3.heap.size) ((Below.refl _ _).alloc (Nat.le_refl _) _) (Nat.le_refl _) _
            have HX3 := Lib.hid (show Has u3 v3.heap.size 34 #[.slice X3 k3 x3, .int .i64 fn] from by rw [← hu3]; exact has_row11 hm _)
            have hstep := hb.trans (hbu.mono hb.size)
            have HB := Lib.hid (HB.out.trans (hstep.mono HB.out.size))
            have HX := Lib.hid (HX.out.under hstep HX.out.lt)
            have HUU := Lib.hid hu3
            clear hm hbu hb hstep hu3
            go_upto_region 30 with (with_reducible refine wpList_store_rowTo (o := ⟨none, _, _, _, _, _⟩) rfl 34 _ _ rfl rfl (v3.heap.size) #[.slice X3 k3 x3, .int .i64 fn] rfl rfl 34 _ (HM.out).raw11 (by kernel_rfl) (by kernel_rfl) (by kernel_rfl) ?_)
            rw [HUU.out]
            clear HUU HM
            obtain ⟨v3g, hv3g⟩ : ∃ g, v3.heap.size = g := ⟨_, rfl⟩
            rw [hv3g] at HX3
            simp only [hv3g]
            clear hv3g
            have c0 : u3.cell? ⟨v1g, 0, none⟩ = some (.slice X k x) := HX.out.cell 0
            have c1 : u3.cell? ⟨v3g, 0, none⟩ = some (.slice X3 k3 x3) := HX3.out.cell 0
            have hw_ : IntKind.i64.wrap ((k : Int) - 1) = k3 := by have h_ := HL3.out; have h2_ := HKL.out; rw [IntKind.wrap_i64]; omega
            have q9 : ((k3 : Int) == k3) = true := by simp
            clear HL3 HX HX3
            go_wp2
            go_ret
            exact ⟨by first | rfl | simp, HB.out⟩
          obtain ⟨op, hop⟩ : ∃ op, b[i]? = some op := ⟨_, List.getElem?_eq_getElem (by rw [HL2.out]; exact hlt)⟩
          obtain ⟨bk, off, rfl, hc⟩ := HS2.out.op16 hop
          have HC := Lib.hid hc
          obtain ⟨d0, d1, -, d3⟩ := hc wv HB.out
          clear hop hc
          obtain ⟨ofr, ort, otr, ono⟩ := op
          dsimp only at d0 d1 d3 HC
          have x1 : (i : Int) < m := by omega
          have x2 : (0 : Int) ≤ i := by omega
          have HIN := Lib.hid (show i < m ∧ m - i ≤ k1 from ⟨hlt, hik⟩)
          clear hlt hi hik
          cases ofr with
          | false =>
            obtain ⟨E, hE⟩ : ∃ E, setE t ⟨yl, yn⟩ ort otr = E := ⟨_, rfl⟩
            have HE := Lib.hid hE
            clear hE
            obtain ⟨⟨el, en⟩, eo2, ee⟩ := E
            go_upto_region 17 with fail
            clear d0 d1 d3
            go_cut [20, 21, 22] (fun s8 s21 s9 wx => s21 = .int .i64 eo2 ∧ s9 = .int .i64 ee ∧ ∃ g8 X8 k8 x8, s8 = .pointer (some ⟨g8, 0, none⟩) ∧ Has wx g8 34 #[.slice X8 k8 x8, .int .i64 en] ∧ LkT wx X8 k8 x8 el ∧ Has wx v1g 34 #[.slice X k x, .int .i64 yn] ∧ LkT wx X k x yl ∧ Below w.heap.size w wx ∧ Has wx (w.heap.size) 27 (tpC t a))
            case first =>
              refine wp_region_held_drew (S := (fun W_ => (Has W_ (w.heap.size) 27 (tpC t a)) ∧ (Has W_ (v1g) 34 #[.slice X k x, .int .i64 yn]) ∧ (LkT W_ X k x (yl)) ∧ (Below w.heap.size w W_))) (by kernel_rfl) ?_ (fun hHeld => ?_)
              · exact ⟨HG0.out.draw, HX.out.draw, HK.out.under (below_dr11 (Below.refl _ _)), below_dr11 HB.out⟩
              refine wpAnyH_take (i := 0) (oi := ⟨some 115, _, _, _, _, _⟩) (v := .agg (tpC t a)) rfl (by kernel_rfl) (by kernel_rfl) (by kernel_rfl) (fun _ _ _ h => h) (yields_load_row11 27 _ rfl (w.heap.size) rfl 27 (tpC t a) _ (fun _ ⟨h_, _, _, _⟩ => h_) Try.underlying27 rfl (by kernel_rfl) (by rfl)) (by assumption) ?_
              simp only [Act.put, List.setIfInBounds_toArray, List.set_cons_zero, List.set_cons_succ]
              refine wpAnyH_take (i := 1) (oi := ⟨some 116, _, _, _, _, _⟩) (v := .agg #[.slice X k x, .int .i64 yn]) rfl (by kernel_rfl) (by kernel_rfl) (by kernel_rfl) (fun _ _ _ h => h) (yields_load_row11 34 _ rfl (v1g) rfl 34 #[.slice X k x, .int .i64 yn] _ (fun _ ⟨_, h_, _, _⟩ => h_) Try.underlying34 rfl (by kernel_rfl) (by rfl)) (by assumption) ?_
              simp only [Act.put, List.setIfInBounds_toArray, List.set_cons_zero, List.set_cons_succ]
              refine wpAnyH_take (i := 2) (oi := ⟨some 117, _, _, _, _, _⟩) (v := ?_) rfl (by kernel_rfl) (by kernel_rfl) (by kernel_rfl) (fun _ _ _ h => h) (Or.inl ⟨by rfl, ?_⟩) (by assumption) ?_
              rotate_left
              · intro w_ hSw; (try dsimp only at hSw); go_simp <;> with_reducible rfl
              simp only [Act.put, List.setIfInBounds_toArray, List.set_cons_zero, List.set_cons_succ]
              refine wpAnyH_take (i := 3) (oi := ⟨some 118, _, _, _, _, _⟩) (v := ?_) rfl (by kernel_rfl) (by kernel_rfl) (by kernel_rfl) (fun _ _ _ h => h) (Or.inl ⟨by rfl, ?_⟩) (by assumption) ?_
              rotate_left
              · intro w_ hSw; (try dsimp only at hSw); go_simp <;> with_reducible rfl
              simp only [Act.put, List.setIfInBounds_toArray, List.set_cons_zero, List.set_cons_succ]
              refine wpAnyH_take (i := 4) (oi := ⟨some 119, _, _, _, _, _⟩) (v := ?_) rfl (by kernel_rfl) (by kernel_rfl) (by kernel_rfl) (fun _ _ _ h => h) (Or.inl ⟨by rfl, ?_⟩) (by assumption) ?_
              rotate_left
              · intro w_ hSw; (try dsimp only at hSw); go_simp <;> with_reducible rfl
              simp only [Act.put, List.setIfInBounds_toArray, List.set_cons_zero, List.set_cons_succ]
              refine wpAnyH_take (i := 5) (oi := ⟨some 120, _, _, _, _, _⟩) (v := ?_) rfl (by kernel_rfl) (by kernel_rfl) (by kernel_rfl) (fun _ _ _ h => h) (Or.inl ⟨by rfl, ?_⟩) (by assumption) ?_
              rotate_left
              · intro w_ hSw; (try dsimp only at hSw); go_simp <;> with_reducible rfl
              simp only [Act.put, List.setIfInBounds_toArray, List.set_cons_zero, List.set_cons_succ]
              refine wpAnyH_take (i := 6) (oi := ⟨some 121, _, _, _, _, _⟩) (v := ?_) rfl (by kernel_rfl) (by kernel_rfl) (by kernel_rfl) (fun _ _ _ h => h) (Or.inl ⟨by rfl, ?_⟩) (by assumption) ?_
              rotate_left
              · intro w_ hSw; (try dsimp only at hSw); obtain ⟨s0, s1, s2, s3⟩ := hSw; (have q_ := (HC.out w_ s3).2.1); go_simp <;> with_reducible rfl
              simp only [Act.put, List.setIfInBounds_toArray, List.set_cons_zero, List.set_cons_succ]
              refine wpAnyH_take (i := 7) (oi := ⟨some 122, _, _, _, _, _⟩) (v := ?_) rfl (by kernel_rfl) (by kernel_rfl) (by kernel_rfl) (fun _ _ _ h => h) (Or.inl ⟨by rfl, ?_⟩) (by assumption) ?_
              rotate_left
              · intro w_ hSw; (try dsimp only at hSw); go_simp <;> with_reducible rfl
              simp only [Act.put, List.setIfInBounds_toArray, List.set_cons_zero, List.set_cons_succ]
              refine wpAnyH_take (i := 8) (oi := ⟨some 123, _, _, _, _, _⟩) (v := ?_) rfl (by kernel_rfl) (by kernel_rfl) (by kernel_rfl) (fun _ _ _ h => h) (Or.inl ⟨by rfl, ?_⟩) (by assumption) ?_
              rotate_left
              · intro w_ hSw; (try dsimp only at hSw); go_simp <;> with_reducible rfl
              simp only [Act.put, List.setIfInBounds_toArray, List.set_cons_zero, List.set_cons_succ]
              refine wpAnyH_take (i := 9) (oi := ⟨some 124, _, _, _, _, _⟩) (v := ?_) rfl (by kernel_rfl) (by kernel_rfl) (by kernel_rfl) (fun _ _ _ h => h) (Or.inl ⟨by rfl, ?_⟩) (by assumption) ?_
              rotate_left
              · intro w_ hSw; (try dsimp only at hSw); go_simp <;> with_reducible rfl
              simp only [Act.put, List.setIfInBounds_toArray, List.set_cons_zero, List.set_cons_succ]
              refine wpAnyH_take (i := 10) (oi := ⟨some 125, _, _, _, _, _⟩) (v := ?_) rfl (by kernel_rfl) (by kernel_rfl) (by kernel_rfl) (fun _ _ _ h => h) (Or.inl ⟨by rfl, ?_⟩) (by assumption) ?_
              rotate_left
              · intro w_ hSw; (try dsimp only at hSw); go_simp <;> with_reducible rfl
              simp only [Act.put, List.setIfInBounds_toArray, List.set_cons_zero, List.set_cons_succ]
              refine wpAnyH_take (i := 11) (oi := ⟨some 126, _, _, _, _, _⟩) (v := ?_) rfl (by kernel_rfl) (by kernel_rfl) (by kernel_rfl) (fun _ _ _ h => h) (Or.inl ⟨by rfl, ?_⟩) (by assumption) ?_
              rotate_left
              · intro w_ hSw; (try dsimp only at hSw); obtain ⟨s0, s1, s2, s3⟩ := hSw; (have q_ := (HC.out w_ s3).2.2.1); go_simp <;> with_reducible rfl
              simp only [Act.put, List.setIfInBounds_toArray, List.set_cons_zero, List.set_cons_succ]
              refine wpAnyH_ready (rs := [12, 17]) (by kernel_rfl) (by simp) ?_
              refine AllReadyH.cons (o := ⟨some 127, _, _, _, _, _⟩) rfl (fun K hK => ?_) ?_
              · go_simp
                obtain ⟨s0, s1, s2, s3⟩ := hHeld
                refine (olc_set t a yl yn X k x _ ort otr (HT.out _ s3) HLT.out HCJ.out s2.1 s2.2.1 (by have := HKL.out; omega)).mono ?_
                rw [HE.out]
                rintro e_ q1 ⟨X8, k8, x8, rfl, hl_, hb_⟩
                dsimp only at hl_ ⊢
                have HN8 := Lib.hid (hl_)
                go_wp2_with fail
                refine hK.out _ _ ?_ (fun hHeld => ?_)
                · exact ⟨s0.under hb_ s0.lt, s1.under hb_ s1.lt, s2.under hb_, s3.trans (hb_.mono s3.size)⟩
                clear hK K s0 s1 s2 s3
                try simp only [Act.put, List.setIfInBounds_toArray, List.set_cons_zero, List.set_cons_succ]
                refine wpAnyH_take (i := 13) (oi := ⟨some 114, _, _, _, _, _⟩) (v := ?_) rfl (by kernel_rfl) (by kernel_rfl) (by kernel_rfl) (fun _ _ _ h => h) (Or.inl ⟨by rfl, ?_⟩) (by assumption) ?_
                rotate_left
                · intro w_ hSw; (try dsimp only at hSw); go_simp <;> with_reducible rfl
                simp only [Act.put, List.setIfInBounds_toArray, List.set_cons_zero, List.set_cons_succ]
                refine wpAnyH_take (i := 14) (oi := ⟨some 128, _, _, _, _, _⟩) (v := ?_) rfl (by kernel_rfl) (by kernel_rfl) (by kernel_rfl) (fun _ _ _ h => h) (Or.inl ⟨by rfl, ?_⟩) (by assumption) ?_
                rotate_left
                · intro w_ hSw; (try dsimp only at hSw); go_simp <;> with_reducible rfl
                simp only [Act.put, List.setIfInBounds_toArray, List.set_cons_zero, List.set_cons_succ]
                refine wpAnyH_take (i := 15) (oi := ⟨some 129, _, _, _, _, _⟩) (v := ?_) rfl (by kernel_rfl) (by kernel_rfl) (by kernel_rfl) (fun _ _ _ h => h) (Or.inl ⟨by rfl, ?_⟩) (by assumption) ?_
                rotate_left
                · intro w_ hSw; (try dsimp only at hSw); go_simp <;> with_reducible rfl
                simp only [Act.put, List.setIfInBounds_toArray, List.set_cons_zero, List.set_cons_succ]
                refine wpAnyH_take (i := 16) (oi := ⟨some 130, _, _, _, _, _⟩) (v := ?_) rfl (by kernel_rfl) (by kernel_rfl) (by kernel_rfl) (fun _ _ _ h => h) (Or.inl ⟨by rfl, ?_⟩) (by assumption) ?_
                rotate_left
                · intro w_ hSw; (try dsimp only at hSw); go_simp <;> with_reducible rfl
                simp only [Act.put, List.setIfInBounds_toArray, List.set_cons_zero, List.set_cons_succ]
                refine wpAnyH_ready (rs := [17]) (by kernel_rfl) (by simp) ?_
                refine AllReadyH.cons (o := ⟨some 20, _, _, _, _, _⟩) rfl (fun K hK => ?_) ?_
                · go_simp
                  obtain ⟨s0, s1, s2, s3⟩ := hHeld
                  obtain ⟨g8, hg8⟩ : ∃ g8, q1.heap.size = g8 := ⟨_, rfl⟩
                  have p0_g8 : w.heap.size < g8 := by rw [← hg8]; exact s0.lt
                  have p1_g8 : v1g < g8 := by rw [← hg8]; exact s1.lt
                  have p3_g8 : w.heap.size ≤ g8 := by rw [← hg8]; exact s3.size
                  rw [hg8]
                  refine hK.out _ _ ?_ (fun hHeld => ?_)
                  · exact ⟨s0.beside _, s1.beside _, s2.under ((Below.refl _ _).alloc (Nat.le_refl _) _), below_al11 s3 _⟩
                  have HN8 := Lib.hid (HN8.out.under ((Below.refl _ _).alloc (Nat.le_refl _) (.cells #[.slice none 0 0, .int .i64 0] 34)))
                  refine wpAnyH_more11 (T := (fun W_ => (Has W_ (w.heap.size) 27 (tpC t a)) ∧ (Has W_ (v1g) 34 #[.slice X k x, .int .i64 yn]) ∧ (LkT W_ X k x (yl)) ∧ (Below w.heap.size w W_) ∧ (∃ o_ : Array Value, Has W_ (g8) 34 o_ ∧ o_.size = 2))) (fun _ ⟨s0, s1, s2, s3, s4⟩ => ⟨s0, s1, s2, s3⟩) ?_
                  have hHeld2 : (fun W_ => (Has W_ (w.heap.size) 27 (tpC t a)) ∧ (Has W_ (v1g) 34 #[.slice X k x, .int .i64 yn]) ∧ (LkT W_ X k x (yl)) ∧ (Below w.heap.size w W_) ∧ (∃ o_ : Array Value, Has W_ (g8) 34 o_ ∧ o_.size = 2)) _ := ⟨s0.beside _, s1.beside _, s2.under ((Below.refl _ _).alloc (Nat.le_refl _) _), below_al11 s3 _, ⟨#[.slice none 0 0, .int .i64 0], (by rw [← hg8]; exact Has.made _ _ _), rfl⟩⟩
                  clear hHeld
                  have hHeld := hHeld2
                  clear hHeld2
                  clear hK K hg8 s0 s1 s2 s3
                  try simp only [Act.put, List.setIfInBounds_toArray, List.set_cons_zero, List.set_cons_succ]
                  refine wpAnyH_ready (rs := [18]) (by kernel_rfl) (by simp) ?_
                  refine AllReadyH.cons (o := ⟨none, _, _, _, _, _⟩) rfl (fun K hK => ?_) ?_
                  · rw [if_pos (by rfl)]
                    obtain ⟨s0, s1, s2, s3, s4⟩ := hHeld
                    obtain ⟨o_, h_, e_⟩ := s4
                    refine wp_store_row 34 _ _ rfl (g8) #[.slice X8 k8 x8, .int .i64 en] (by rfl) (by rfl) 34 o_ h_.raw11 (by kernel_rfl) e_ (by kernel_rfl) ?_
                    have HN8 := Lib.hid (HN8.out.row h_ (by decide) #[.slice X8 k8 x8, .int .i64 en])
                    refine hK.out _ _ ?_ (fun hHeld => ?_)
                    · exact ⟨has_rowo11 s0 (by omega) _, has_rowo11 s1 (by omega) _, s2.row h_ (by decide) _, below_row s3 (by omega) _, ⟨_, has_row11 h_ _, rfl⟩⟩
                    refine wpAnyH_more11 (T := (fun W_ => (Has W_ (w.heap.size) 27 (tpC t a)) ∧ (Has W_ (v1g) 34 #[.slice X k x, .int .i64 yn]) ∧ (LkT W_ X k x (yl)) ∧ (Below w.heap.size w W_) ∧ (∃ o_ : Array Value, Has W_ (g8) 34 o_ ∧ o_.size = 2) ∧ (Has W_ (g8) 34 #[.slice X8 k8 x8, .int .i64 en]))) (fun _ ⟨s0, s1, s2, s3, s4, s5⟩ => ⟨s0, s1, s2, s3, s4⟩) ?_
                    have hHeld2 : (fun W_ => (Has W_ (w.heap.size) 27 (tpC t a)) ∧ (Has W_ (v1g) 34 #[.slice X k x, .int .i64 yn]) ∧ (LkT W_ X k x (yl)) ∧ (Below w.heap.size w W_) ∧ (∃ o_ : Array Value, Has W_ (g8) 34 o_ ∧ o_.size = 2) ∧ (Has W_ (g8) 34 #[.slice X8 k8 x8, .int .i64 en])) _ := ⟨has_rowo11 s0 (by omega) _, has_rowo11 s1 (by omega) _, s2.row h_ (by decide) _, below_row s3 (by omega) _, ⟨_, has_row11 h_ _, rfl⟩, has_row11 h_ _⟩
                    clear hHeld
                    have hHeld := hHeld2
                    clear hHeld2
                    clear hK K h_ e_ s0 s1 s2 s3
                    try simp only [Act.put]
                    refine wpAnyH_take (i := 19) (oi := ⟨some 21, _, _, _, _, _⟩) (v := ?_) rfl (by kernel_rfl) (by kernel_rfl) (by kernel_rfl) (fun _ _ _ h => h) (Or.inl ⟨by rfl, ?_⟩) (by assumption) ?_
                    rotate_left
                    · intro w_ hSw; (try dsimp only at hSw); go_simp <;> with_reducible rfl
                    simp only [Act.put, List.setIfInBounds_toArray, List.set_cons_zero, List.set_cons_succ]
                    refine wpAnyH_take (i := 20) (oi := ⟨some 22, _, _, _, _, _⟩) (v := ?_) rfl (by kernel_rfl) (by kernel_rfl) (by kernel_rfl) (fun _ _ _ h => h) (Or.inl ⟨by rfl, ?_⟩) (by assumption) ?_
                    rotate_left
                    · intro w_ hSw; (try dsimp only at hSw); go_simp <;> with_reducible rfl
                    simp only [Act.put, List.setIfInBounds_toArray, List.set_cons_zero, List.set_cons_succ]
                    refine wpAnyH_done (by kernel_rfl) ?_ _
                    go_wp2_with fail
                    go_meet
                    exact ⟨rfl, rfl, _, _, _, _, rfl, hHeld.2.2.2.2.2, HN8.out, hHeld.2.1, hHeld.2.2.1, hHeld.2.2.2.1, hHeld.1⟩
                  exact AllReadyH.nil
                exact AllReadyH.nil
              refine AllReadyH.cons (o := ⟨some 20, _, _, _, _, _⟩) rfl (fun K hK => ?_) ?_
              · go_simp
                obtain ⟨s0, s1, s2, s3⟩ := hHeld
                obtain ⟨g8, hg8⟩ : ∃ g8, wv.heap.size = g8 := ⟨_, rfl⟩
                have p0_g8 : w.heap.size < g8 := by rw [← hg8]; exact s0.lt
                have p1_g8 : v1g < g8 := by rw [← hg8]; exact s1.lt
                have p3_g8 : w.heap.size ≤ g8 := by rw [← hg8]; exact s3.size
                rw [hg8]
                refine hK.out _ _ ?_ (fun hHeld => ?_)
                · exact ⟨s0.beside _, s1.beside _, s2.under ((Below.refl _ _).alloc (Nat.le_refl _) _), below_al11 s3 _⟩
                refine wpAnyH_more11 (T := (fun W_ => (Has W_ (w.heap.size) 27 (tpC t a)) ∧ (Has W_ (v1g) 34 #[.slice X k x, .int .i64 yn]) ∧ (LkT W_ X k x (yl)) ∧ (Below w.heap.size w W_) ∧ (∃ o_ : Array Value, Has W_ (g8) 34 o_ ∧ o_.size = 2))) (fun _ ⟨s0, s1, s2, s3, s4⟩ => ⟨s0, s1, s2, s3⟩) ?_
                have hHeld2 : (fun W_ => (Has W_ (w.heap.size) 27 (tpC t a)) ∧ (Has W_ (v1g) 34 #[.slice X k x, .int .i64 yn]) ∧ (LkT W_ X k x (yl)) ∧ (Below w.heap.size w W_) ∧ (∃ o_ : Array Value, Has W_ (g8) 34 o_ ∧ o_.size = 2)) _ := ⟨s0.beside _, s1.beside _, s2.under ((Below.refl _ _).alloc (Nat.le_refl _) _), below_al11 s3 _, ⟨#[.slice none 0 0, .int .i64 0], (by rw [← hg8]; exact Has.made _ _ _), rfl⟩⟩
                clear hHeld
                have hHeld := hHeld2
                clear hHeld2
                clear hK K hg8 s0 s1 s2 s3
                try simp only [Act.put, List.setIfInBounds_toArray, List.set_cons_zero, List.set_cons_succ]
                refine wpAnyH_ready (rs := [12]) (by kernel_rfl) (by simp) ?_
                refine AllReadyH.cons (o := ⟨some 127, _, _, _, _, _⟩) rfl (fun K hK => ?_) ?_
                · go_simp
                  obtain ⟨s0, s1, s2, s3, s4⟩ := hHeld
                  refine (olc_set t a yl yn X k x _ ort otr (HT.out _ s3) HLT.out HCJ.out s2.1 s2.2.1 (by have := HKL.out; omega)).mono ?_
                  rw [HE.out]
                  rintro e_ q1 ⟨X8, k8, x8, rfl, hl_, hb_⟩
                  dsimp only at hl_ ⊢
                  have HN8 := Lib.hid (hl_)
                  go_wp2_with fail
                  refine hK.out _ _ ?_ (fun hHeld => ?_)
                  · exact ⟨s0.under hb_ s0.lt, s1.under hb_ s1.lt, s2.under hb_, s3.trans (hb_.mono s3.size), (let ⟨o_, h_, e_⟩ := s4; ⟨o_, h_.under hb_ h_.lt, e_⟩)⟩
                  clear hK K s0 s1 s2 s3 s4
                  try simp only [Act.put, List.setIfInBounds_toArray, List.set_cons_zero, List.set_cons_succ]
                  refine wpAnyH_take (i := 13) (oi := ⟨some 114, _, _, _, _, _⟩) (v := ?_) rfl (by kernel_rfl) (by kernel_rfl) (by kernel_rfl) (fun _ _ _ h => h) (Or.inl ⟨by rfl, ?_⟩) (by assumption) ?_
                  rotate_left
                  · intro w_ hSw; (try dsimp only at hSw); go_simp <;> with_reducible rfl
                  simp only [Act.put, List.setIfInBounds_toArray, List.set_cons_zero, List.set_cons_succ]
                  refine wpAnyH_take (i := 14) (oi := ⟨some 128, _, _, _, _, _⟩) (v := ?_) rfl (by kernel_rfl) (by kernel_rfl) (by kernel_rfl) (fun _ _ _ h => h) (Or.inl ⟨by rfl, ?_⟩) (by assumption) ?_
                  rotate_left
                  · intro w_ hSw; (try dsimp only at hSw); go_simp <;> with_reducible rfl
                  simp only [Act.put, List.setIfInBounds_toArray, List.set_cons_zero, List.set_cons_succ]
                  refine wpAnyH_take (i := 15) (oi := ⟨some 129, _, _, _, _, _⟩) (v := ?_) rfl (by kernel_rfl) (by kernel_rfl) (by kernel_rfl) (fun _ _ _ h => h) (Or.inl ⟨by rfl, ?_⟩) (by assumption) ?_
                  rotate_left
                  · intro w_ hSw; (try dsimp only at hSw); go_simp <;> with_reducible rfl
                  simp only [Act.put, List.setIfInBounds_toArray, List.set_cons_zero, List.set_cons_succ]
                  refine wpAnyH_take (i := 16) (oi := ⟨some 130, _, _, _, _, _⟩) (v := ?_) rfl (by kernel_rfl) (by kernel_rfl) (by kernel_rfl) (fun _ _ _ h => h) (Or.inl ⟨by rfl, ?_⟩) (by assumption) ?_
                  rotate_left
                  · intro w_ hSw; (try dsimp only at hSw); go_simp <;> with_reducible rfl
                  simp only [Act.put, List.setIfInBounds_toArray, List.set_cons_zero, List.set_cons_succ]
                  refine wpAnyH_ready (rs := [18]) (by kernel_rfl) (by simp) ?_
                  refine AllReadyH.cons (o := ⟨none, _, _, _, _, _⟩) rfl (fun K hK => ?_) ?_
                  · rw [if_pos (by rfl)]
                    obtain ⟨s0, s1, s2, s3, s4⟩ := hHeld
                    obtain ⟨o_, h_, e_⟩ := s4
                    refine wp_store_row 34 _ _ rfl (g8) #[.slice X8 k8 x8, .int .i64 en] (by rfl) (by rfl) 34 o_ h_.raw11 (by kernel_rfl) e_ (by kernel_rfl) ?_
                    have HN8 := Lib.hid (HN8.out.row h_ (by decide) #[.slice X8 k8 x8, .int .i64 en])
                    refine hK.out _ _ ?_ (fun hHeld => ?_)
                    · exact ⟨has_rowo11 s0 (by omega) _, has_rowo11 s1 (by omega) _, s2.row h_ (by decide) _, below_row s3 (by omega) _, ⟨_, has_row11 h_ _, rfl⟩⟩
                    refine wpAnyH_more11 (T := (fun W_ => (Has W_ (w.heap.size) 27 (tpC t a)) ∧ (Has W_ (v1g) 34 #[.slice X k x, .int .i64 yn]) ∧ (LkT W_ X k x (yl)) ∧ (Below w.heap.size w W_) ∧ (∃ o_ : Array Value, Has W_ (g8) 34 o_ ∧ o_.size = 2) ∧ (Has W_ (g8) 34 #[.slice X8 k8 x8, .int .i64 en]))) (fun _ ⟨s0, s1, s2, s3, s4, s5⟩ => ⟨s0, s1, s2, s3, s4⟩) ?_
                    have hHeld2 : (fun W_ => (Has W_ (w.heap.size) 27 (tpC t a)) ∧ (Has W_ (v1g) 34 #[.slice X k x, .int .i64 yn]) ∧ (LkT W_ X k x (yl)) ∧ (Below w.heap.size w W_) ∧ (∃ o_ : Array Value, Has W_ (g8) 34 o_ ∧ o_.size = 2) ∧ (Has W_ (g8) 34 #[.slice X8 k8 x8, .int .i64 en])) _ := ⟨has_rowo11 s0 (by omega) _, has_rowo11 s1 (by omega) _, s2.row h_ (by decide) _, below_row s3 (by omega) _, ⟨_, has_row11 h_ _, rfl⟩, has_row11 h_ _⟩
                    clear hHeld
                    have hHeld := hHeld2
                    clear hHeld2
                    clear hK K h_ e_ s0 s1 s2 s3
                    try simp only [Act.put]
                    refine wpAnyH_take (i := 19) (oi := ⟨some 21, _, _, _, _, _⟩) (v := ?_) rfl (by kernel_rfl) (by kernel_rfl) (by kernel_rfl) (fun _ _ _ h => h) (Or.inl ⟨by rfl, ?_⟩) (by assumption) ?_
                    rotate_left
                    · intro w_ hSw; (try dsimp only at hSw); go_simp <;> with_reducible rfl
                    simp only [Act.put, List.setIfInBounds_toArray, List.set_cons_zero, List.set_cons_succ]
                    refine wpAnyH_take (i := 20) (oi := ⟨some 22, _, _, _, _, _⟩) (v := ?_) rfl (by kernel_rfl) (by kernel_rfl) (by kernel_rfl) (fun _ _ _ h => h) (Or.inl ⟨by rfl, ?_⟩) (by assumption) ?_
                    rotate_left
                    · intro w_ hSw; (try dsimp only at hSw); go_simp <;> with_reducible rfl
                    simp only [Act.put, List.setIfInBounds_toArray, List.set_cons_zero, List.set_cons_succ]
                    refine wpAnyH_done (by kernel_rfl) ?_ _
                    go_wp2_with fail
                    go_meet
                    exact ⟨rfl, rfl, _, _, _, _, rfl, hHeld.2.2.2.2.2, HN8.out, hHeld.2.1, hHeld.2.2.1, hHeld.2.2.2.1, hHeld.1⟩
                  exact AllReadyH.nil
                exact AllReadyH.nil
              exact AllReadyH.nil
            case rest =>
              obtain ⟨rfl, rfl, g8, X8, k8, x8, rfl, h8_, hl8_, hx_, hk_, hb_, hg_⟩ := hcut
              have H8 := Lib.hid h8_; have HL8 := Lib.hid hl8_; have HX := Lib.hid hx_; have HK := Lib.hid hk_; have HB := Lib.hid hb_; have HG0 := Lib.hid hg_
              clear h8_ hl8_ hx_ hk_ hb_ hg_
              obtain ⟨u4, hu4⟩ : ∃ u4, u4 = wc := ⟨_, rfl⟩
              subst hu4
              by_cases z0 : ee = 0
              rotate_left
              · have q0 : (ee == 0) = false := by simp [z0]
                clear H8 HL8 HE
                have c0 : u4.cell? ⟨v1g, 0, none⟩ = some (.slice X k x) := HX.out.cell 0
                have HLK := Lib.hid (show yl.length = k from HK.out.1.1)
                have HKB := Lib.hid (show k ≤ 24 from by have h2_ := (may_iff.1 HKK.out.may).few; have h3_ := HLK.out; (try dsimp only at h2_); omega)
                go_upto_region 24 with fail
                go_wp2
                go_loopg [23, 24] k (fun kk v23 v24 wl => ∃ (j : Nat) (th : Bool), j ≤ k ∧ k - j ≤ kk ∧ v23 = .bool th ∧ v24 = .int .i64 j ∧ Hid ((yl.take j).any (fun z => eqK z ⟨route, train, eo⟩) = th) ∧ wl = u4)
                case atStart => exact ⟨0, false, by omega, by omega, rfl, rfl, Lib.hid rfl, rfl⟩
                case round =>
                  obtain ⟨j, th, hj, hjk, rfl, rfl, HTH, hw_⟩ := hrel
                  subst hw_
                  by_cases hjl : j < k
                  rotate_left
                  · obtain rfl : j = k := by omega
                    have y1 : ¬ (j : Int) < j := by omega
                    obtain rfl : th = true := by rw [← HTH.out, List.take_of_length_le (by rw [HLK.out]; exact Nat.le_refl _), List.any_eq_true]; exact ⟨_, HKK.out.mem, (eqK_iff _ _).2 rfl⟩
                    clear hj hjk hjl HTH HLK HKB
                    go_wp2
                    go_roundg (k1 - 1)
                    case measure => have := HIN.out; omega
                    case rel => exact ⟨i + 1, X, j, x, yl, yn, by have := HIN.out; omega, by have := HIN.out; omega, by rw [IntWalk.wrap64_in _ (by have h1_ := HIN.out; have h2_ := HMB.out; omega)]; go_num, HKK, HG0, HX, HK, HB⟩
                  obtain ⟨z, hz⟩ : ∃ z, yl[j]? = some z := ⟨_, List.getElem?_eq_getElem (by rw [HLK.out]; exact hjl)⟩
                  have HST := Lib.hid (show (yl.take (j + 1)).any (fun z => eqK z ⟨route, train, eo⟩) = (th || eqK z ⟨route, train, eo⟩) from by rw [List.take_add_one, hz, List.any_append, HTH.out]; simp)
                  obtain ⟨bz, oz, hX_, f0, f1, f2⟩ := HK.out.1.lock hz
                  have q1 := eql_lc16 z ⟨route, train, eo⟩
                  unfold lcA at q1
                  generalize eqK z ⟨route, train, eo⟩ = b at *
                  have y1 : (j : Int) < k := by omega
                  have y2 : (0 : Int) ≤ j := by omega
                  have HJN := Lib.hid (show j < k ∧ k - j ≤ gk from ⟨hjl, hjk⟩)
                  clear hjl hjk hj hz HTH
                  subst hX_
                  cases th with
                  | false =>
                    go_wp2
                    go_roundg (gk - 1)
                    case measure => have := HJN.out; omega
                    case rel => exact ⟨j + 1, b, by have := HJN.out; omega, by have := HJN.out; omega, rfl, by rw [IntWalk.wrap64_in _ (by have h1_ := HJN.out; have h2_ := HKB.out; omega)]; go_num, Lib.hid (by rw [HST.out]; exact Bool.false_or _), rfl⟩
                  | true =>
                    go_wp2
                    go_roundg (gk - 1)
                    case measure => have := HJN.out; omega
                    case rel => exact ⟨j + 1, true, by have := HJN.out; omega, by have := HJN.out; omega, rfl, by rw [IntWalk.wrap64_in _ (by have h1_ := HJN.out; have h2_ := HKB.out; omega)]; go_num, Lib.hid (by rw [HST.out]; exact Bool.true_or _), rfl⟩
              subst z0
              have HKN := Lib.hid (show HasK t ⟨route, train, eo⟩ ⟨el, en⟩ ∧ eo < eo2 ∧ ort ≠ route from by have h_ := HKK.out.set (route := ort) (train := otr) (by rw [HE.out]); rw [HE.out] at h_; exact h_)
              obtain ⟨u5, hu5⟩ : ∃ u5, u4.setRow v1g #[.slice X8 k8 x8, .int .i64 en] = u5 := ⟨_, rfl⟩
              have HU5 := Lib.hid hu5
              have HXN := Lib.hid (show Has u5 v1g 34 #[.slice X8 k8 x8, .int .i64 en] from by rw [← hu5]; exact has_row11 HX.out _)
              have HK5 := Lib.hid (show LkT u5 X8 k8 x8 el from by rw [← hu5]; exact LkT.row HL8.out HX.out (by decide) _)
              have HB5 := Lib.hid (show Below w.heap.size w u5 from by rw [← hu5]; exact below_row (g := v1g) HB.out HGW.out _)
              have HG5 := Lib.hid (show Has u5 (w.heap.size) 27 (tpC t a) from by rw [← hu5]; exact has_rowo11 HG0.out (by have h1_ := HGL.out; omega) _)
              clear hu5 HE HKK
              go_upto_region 20 with (first | (with_reducible refine wpList_load_row (o := ⟨some 133, _, _, _, _, _⟩) rfl 34 _ rfl (g8) rfl 34 #[.slice X8 k8 x8, .int .i64 en] (0, 0) _ (H8.out).raw11 Try.underlying34 rfl (by kernel_rfl) ?_) | (with_reducible refine wpList_store_rowTo (o := ⟨none, _, _, _, _, _⟩) rfl 34 _ _ rfl rfl (v1g) #[.slice X8 k8 x8, .int .i64 en] rfl rfl 34 _ (HX.out).raw11 (by kernel_rfl) (by kernel_rfl) (by kernel_rfl) ?_))
              rw [HU5.out]
              clear HU5 H8 HL8 HX HK HB HG0
              have HX := HXN; have HK := HK5; have HB := HB5; have HG0 := HG5
              clear HXN HK5 HB5 HG5
              have HKK := Lib.hid HKN.out.1
              have y5 : ¬ eo2 ≤ eo := by have := HKN.out.2.1; omega
              have y6 : decide (eo2 ≤ eo) = false := decide_eq_false y5
              have y7 : (ort == route) = false := by have h_ := HKN.out.2.2; simp [h_]
              have d1 := (HC.out u5 HB.out).2.1
              (try dsimp only at d1)
              go_upto_region 22 with fail
              clear y5 y6 y7 d1
              clear HKN HKL
              have c0 : u5.cell? ⟨v1g, 0, none⟩ = some (.slice X8 k8 x8) := HX.out.cell 0
              have HLK := Lib.hid (show el.length = k8 from HK.out.1.1)
              have HKB := Lib.hid (show k8 ≤ 24 from by have h2_ := (may_iff.1 HKK.out.may).few; have h3_ := HLK.out; (try dsimp only at h2_); omega)
              go_upto_region 24 with fail
              go_wp2
              go_loopg [23, 24] k8 (fun kk v23 v24 wl => ∃ (j : Nat) (th : Bool), j ≤ k8 ∧ k8 - j ≤ kk ∧ v23 = .bool th ∧ v24 = .int .i64 j ∧ Hid ((el.take j).any (fun z => eqK z ⟨route, train, eo⟩) = th) ∧ wl = u5)
              case atStart => exact ⟨0, false, by omega, by omega, rfl, rfl, Lib.hid rfl, rfl⟩
              case round =>
                obtain ⟨j, th, hj, hjk, rfl, rfl, HTH, hw_⟩ := hrel
                subst hw_
                by_cases hjl : j < k8
                rotate_left
                · obtain rfl : j = k8 := by omega
                  have y1 : ¬ (j : Int) < j := by omega
                  obtain rfl : th = true := by rw [← HTH.out, List.take_of_length_le (by rw [HLK.out]; exact Nat.le_refl _), List.any_eq_true]; exact ⟨_, HKK.out.mem, (eqK_iff _ _).2 rfl⟩
                  clear hj hjk hjl HTH HLK HKB
                  go_wp2
                  go_roundg (k1 - 1)
                  case measure => have := HIN.out; omega
                  case rel => exact ⟨i + 1, X8, j, x8, el, en, by have := HIN.out; omega, by have := HIN.out; omega, by rw [IntWalk.wrap64_in _ (by have h1_ := HIN.out; have h2_ := HMB.out; omega)]; go_num, HKK, HG0, HX, HK, HB⟩
                obtain ⟨z, hz⟩ : ∃ z, el[j]? = some z := ⟨_, List.getElem?_eq_getElem (by rw [HLK.out]; exact hjl)⟩
                have HST := Lib.hid (show (el.take (j + 1)).any (fun z => eqK z ⟨route, train, eo⟩) = (th || eqK z ⟨route, train, eo⟩) from by rw [List.take_add_one, hz, List.any_append, HTH.out]; simp)
                obtain ⟨bz, oz, hX_, f0, f1, f2⟩ := HK.out.1.lock hz
                have q1 := eql_lc16 z ⟨route, train, eo⟩
                unfold lcA at q1
                generalize eqK z ⟨route, train, eo⟩ = b at *
                have y1 : (j : Int) < k8 := by omega
                have y2 : (0 : Int) ≤ j := by omega
                have HJN := Lib.hid (show j < k8 ∧ k8 - j ≤ gk from ⟨hjl, hjk⟩)
                clear hjl hjk hj hz HTH
                subst hX_
                cases th with
                | false =>
                  go_wp2
                  go_roundg (gk - 1)
                  case measure => have := HJN.out; omega
                  case rel => exact ⟨j + 1, b, by have := HJN.out; omega, by have := HJN.out; omega, rfl, by rw [IntWalk.wrap64_in _ (by have h1_ := HJN.out; have h2_ := HKB.out; omega)]; go_num, Lib.hid (by rw [HST.out]; exact Bool.false_or _), rfl⟩
                | true =>
                  go_wp2
                  go_roundg (gk - 1)
                  case measure => have := HJN.out; omega
                  case rel => exact ⟨j + 1, true, by have := HJN.out; omega, by have := HJN.out; omega, rfl, by rw [IntWalk.wrap64_in _ (by have h1_ := HJN.out; have h2_ := HKB.out; omega)]; go_num, Lib.hid (by rw [HST.out]; exact Bool.true_or _), rfl⟩
          | true =>
            by_cases hno : ono = eo
            · subst hno
              have q5 : (ono == ono) = true := by simp
              go_wp2
              go_roundg (k1 - 1)
              case measure => have := HIN.out; omega
              case rel => exact ⟨i + 1, X, k, x, yl, yn, by have := HIN.out; omega, by have := HIN.out; omega, by rw [IntWalk.wrap64_in _ (by have h1_ := HIN.out; have h2_ := HMB.out; omega)]; go_num, HKK, HG0, HX, HK, HB⟩
            have q5 : (ono == eo) = false := by simp [hno]
            have HNO := Lib.hid hno
            obtain ⟨E, hE⟩ : ∃ E, freeE t ⟨yl, yn⟩ ono = E := ⟨_, rfl⟩
            have HE := Lib.hid hE
            clear hE
            obtain ⟨⟨el, en⟩, ee⟩ := E
            go_upto_region 14 with fail
            clear d0 d1 d3 q5 hno
            go_cut [18, 19] (fun s8 s9 wx => s9 = .int .i64 ee ∧ ∃ g8 X8 k8 x8, s8 = .pointer (some ⟨g8, 0, none⟩) ∧ Has wx g8 34 #[.slice X8 k8 x8, .int .i64 en] ∧ LkT wx X8 k8 x8 el ∧ Has wx v1g 34 #[.slice X k x, .int .i64 yn] ∧ LkT wx X k x yl ∧ Below w.heap.size w wx ∧ Has wx (w.heap.size) 27 (tpC t a))
            case first =>
              refine wp_region_held_drew (S := (fun W_ => (Has W_ (w.heap.size) 27 (tpC t a)) ∧ (Has W_ (v1g) 34 #[.slice X k x, .int .i64 yn]) ∧ (LkT W_ X k x (yl)) ∧ (Below w.heap.size w W_))) (by kernel_rfl) ?_ (fun hHeld => ?_)
              · exact ⟨HG0.out.draw, HX.out.draw, HK.out.under (below_dr11 (Below.refl _ _)), below_dr11 HB.out⟩
              refine wpAnyH_take (i := 0) (oi := ⟨some 101, _, _, _, _, _⟩) (v := .agg (tpC t a)) rfl (by kernel_rfl) (by kernel_rfl) (by kernel_rfl) (fun _ _ _ h => h) (yields_load_row11 27 _ rfl (w.heap.size) rfl 27 (tpC t a) _ (fun _ ⟨h_, _, _, _⟩ => h_) Try.underlying27 rfl (by kernel_rfl) (by rfl)) (by assumption) ?_
              simp only [Act.put, List.setIfInBounds_toArray, List.set_cons_zero, List.set_cons_succ]
              refine wpAnyH_take (i := 1) (oi := ⟨some 102, _, _, _, _, _⟩) (v := .agg #[.slice X k x, .int .i64 yn]) rfl (by kernel_rfl) (by kernel_rfl) (by kernel_rfl) (fun _ _ _ h => h) (yields_load_row11 34 _ rfl (v1g) rfl 34 #[.slice X k x, .int .i64 yn] _ (fun _ ⟨_, h_, _, _⟩ => h_) Try.underlying34 rfl (by kernel_rfl) (by rfl)) (by assumption) ?_
              simp only [Act.put, List.setIfInBounds_toArray, List.set_cons_zero, List.set_cons_succ]
              refine wpAnyH_take (i := 2) (oi := ⟨some 103, _, _, _, _, _⟩) (v := ?_) rfl (by kernel_rfl) (by kernel_rfl) (by kernel_rfl) (fun _ _ _ h => h) (Or.inl ⟨by rfl, ?_⟩) (by assumption) ?_
              rotate_left
              · intro w_ hSw; (try dsimp only at hSw); go_simp <;> with_reducible rfl
              simp only [Act.put, List.setIfInBounds_toArray, List.set_cons_zero, List.set_cons_succ]
              refine wpAnyH_take (i := 3) (oi := ⟨some 104, _, _, _, _, _⟩) (v := ?_) rfl (by kernel_rfl) (by kernel_rfl) (by kernel_rfl) (fun _ _ _ h => h) (Or.inl ⟨by rfl, ?_⟩) (by assumption) ?_
              rotate_left
              · intro w_ hSw; (try dsimp only at hSw); go_simp <;> with_reducible rfl
              simp only [Act.put, List.setIfInBounds_toArray, List.set_cons_zero, List.set_cons_succ]
              refine wpAnyH_take (i := 4) (oi := ⟨some 105, _, _, _, _, _⟩) (v := ?_) rfl (by kernel_rfl) (by kernel_rfl) (by kernel_rfl) (fun _ _ _ h => h) (Or.inl ⟨by rfl, ?_⟩) (by assumption) ?_
              rotate_left
              · intro w_ hSw; (try dsimp only at hSw); go_simp <;> with_reducible rfl
              simp only [Act.put, List.setIfInBounds_toArray, List.set_cons_zero, List.set_cons_succ]
              refine wpAnyH_take (i := 5) (oi := ⟨some 106, _, _, _, _, _⟩) (v := ?_) rfl (by kernel_rfl) (by kernel_rfl) (by kernel_rfl) (fun _ _ _ h => h) (Or.inl ⟨by rfl, ?_⟩) (by assumption) ?_
              rotate_left
              · intro w_ hSw; (try dsimp only at hSw); go_simp <;> with_reducible rfl
              simp only [Act.put, List.setIfInBounds_toArray, List.set_cons_zero, List.set_cons_succ]
              refine wpAnyH_take (i := 6) (oi := ⟨some 107, _, _, _, _, _⟩) (v := ?_) rfl (by kernel_rfl) (by kernel_rfl) (by kernel_rfl) (fun _ _ _ h => h) (Or.inl ⟨by rfl, ?_⟩) (by assumption) ?_
              rotate_left
              · intro w_ hSw; (try dsimp only at hSw); obtain ⟨s0, s1, s2, s3⟩ := hSw; (have q_ := (HC.out w_ s3).2.2.2); go_simp <;> with_reducible rfl
              simp only [Act.put, List.setIfInBounds_toArray, List.set_cons_zero, List.set_cons_succ]
              refine wpAnyH_ready (rs := [7, 11]) (by kernel_rfl) (by simp) ?_
              refine AllReadyH.cons (o := ⟨some 108, _, _, _, _, _⟩) rfl (fun K hK => ?_) ?_
              · go_simp
                obtain ⟨s0, s1, s2, s3⟩ := hHeld
                refine (olc_free t a yl yn X k x _ ono (HT.out _ s3) HLT.out HCJ.out s2.1 s2.2.1 (by have := HKL.out; omega)).mono ?_
                rw [HE.out]
                rintro e_ q1 ⟨X8, k8, x8, rfl, hl_, hb_⟩
                dsimp only at hl_ ⊢
                have HN8 := Lib.hid (hl_)
                go_wp2_with fail
                refine hK.out _ _ ?_ (fun hHeld => ?_)
                · exact ⟨s0.under hb_ s0.lt, s1.under hb_ s1.lt, s2.under hb_, s3.trans (hb_.mono s3.size)⟩
                clear hK K s0 s1 s2 s3
                try simp only [Act.put, List.setIfInBounds_toArray, List.set_cons_zero, List.set_cons_succ]
                refine wpAnyH_take (i := 8) (oi := ⟨some 100, _, _, _, _, _⟩) (v := ?_) rfl (by kernel_rfl) (by kernel_rfl) (by kernel_rfl) (fun _ _ _ h => h) (Or.inl ⟨by rfl, ?_⟩) (by assumption) ?_
                rotate_left
                · intro w_ hSw; (try dsimp only at hSw); go_simp <;> with_reducible rfl
                simp only [Act.put, List.setIfInBounds_toArray, List.set_cons_zero, List.set_cons_succ]
                refine wpAnyH_take (i := 9) (oi := ⟨some 109, _, _, _, _, _⟩) (v := ?_) rfl (by kernel_rfl) (by kernel_rfl) (by kernel_rfl) (fun _ _ _ h => h) (Or.inl ⟨by rfl, ?_⟩) (by assumption) ?_
                rotate_left
                · intro w_ hSw; (try dsimp only at hSw); go_simp <;> with_reducible rfl
                simp only [Act.put, List.setIfInBounds_toArray, List.set_cons_zero, List.set_cons_succ]
                refine wpAnyH_take (i := 10) (oi := ⟨some 110, _, _, _, _, _⟩) (v := ?_) rfl (by kernel_rfl) (by kernel_rfl) (by kernel_rfl) (fun _ _ _ h => h) (Or.inl ⟨by rfl, ?_⟩) (by assumption) ?_
                rotate_left
                · intro w_ hSw; (try dsimp only at hSw); go_simp <;> with_reducible rfl
                simp only [Act.put, List.setIfInBounds_toArray, List.set_cons_zero, List.set_cons_succ]
                refine wpAnyH_ready (rs := [11]) (by kernel_rfl) (by simp) ?_
                refine AllReadyH.cons (o := ⟨some 18, _, _, _, _, _⟩) rfl (fun K hK => ?_) ?_
                · go_simp
                  obtain ⟨s0, s1, s2, s3⟩ := hHeld
                  obtain ⟨g8, hg8⟩ : ∃ g8, q1.heap.size = g8 := ⟨_, rfl⟩
                  have p0_g8 : w.heap.size < g8 := by rw [← hg8]; exact s0.lt
                  have p1_g8 : v1g < g8 := by rw [← hg8]; exact s1.lt
                  have p3_g8 : w.heap.size ≤ g8 := by rw [← hg8]; exact s3.size
                  rw [hg8]
                  refine hK.out _ _ ?_ (fun hHeld => ?_)
                  · exact ⟨s0.beside _, s1.beside _, s2.under ((Below.refl _ _).alloc (Nat.le_refl _) _), below_al11 s3 _⟩
                  have HN8 := Lib.hid (HN8.out.under ((Below.refl _ _).alloc (Nat.le_refl _) (.cells #[.slice none 0 0, .int .i64 0] 34)))
                  refine wpAnyH_more11 (T := (fun W_ => (Has W_ (w.heap.size) 27 (tpC t a)) ∧ (Has W_ (v1g) 34 #[.slice X k x, .int .i64 yn]) ∧ (LkT W_ X k x (yl)) ∧ (Below w.heap.size w W_) ∧ (∃ o_ : Array Value, Has W_ (g8) 34 o_ ∧ o_.size = 2))) (fun _ ⟨s0, s1, s2, s3, s4⟩ => ⟨s0, s1, s2, s3⟩) ?_
                  have hHeld2 : (fun W_ => (Has W_ (w.heap.size) 27 (tpC t a)) ∧ (Has W_ (v1g) 34 #[.slice X k x, .int .i64 yn]) ∧ (LkT W_ X k x (yl)) ∧ (Below w.heap.size w W_) ∧ (∃ o_ : Array Value, Has W_ (g8) 34 o_ ∧ o_.size = 2)) _ := ⟨s0.beside _, s1.beside _, s2.under ((Below.refl _ _).alloc (Nat.le_refl _) _), below_al11 s3 _, ⟨#[.slice none 0 0, .int .i64 0], (by rw [← hg8]; exact Has.made _ _ _), rfl⟩⟩
                  clear hHeld
                  have hHeld := hHeld2
                  clear hHeld2
                  clear hK K hg8 s0 s1 s2 s3
                  try simp only [Act.put, List.setIfInBounds_toArray, List.set_cons_zero, List.set_cons_succ]
                  refine wpAnyH_ready (rs := [12]) (by kernel_rfl) (by simp) ?_
                  refine AllReadyH.cons (o := ⟨none, _, _, _, _, _⟩) rfl (fun K hK => ?_) ?_
                  · rw [if_pos (by rfl)]
                    obtain ⟨s0, s1, s2, s3, s4⟩ := hHeld
                    obtain ⟨o_, h_, e_⟩ := s4
                    refine wp_store_row 34 _ _ rfl (g8) #[.slice X8 k8 x8, .int .i64 en] (by rfl) (by rfl) 34 o_ h_.raw11 (by kernel_rfl) e_ (by kernel_rfl) ?_
                    have HN8 := Lib.hid (HN8.out.row h_ (by decide) #[.slice X8 k8 x8, .int .i64 en])
                    refine hK.out _ _ ?_ (fun hHeld => ?_)
                    · exact ⟨has_rowo11 s0 (by omega) _, has_rowo11 s1 (by omega) _, s2.row h_ (by decide) _, below_row s3 (by omega) _, ⟨_, has_row11 h_ _, rfl⟩⟩
                    refine wpAnyH_more11 (T := (fun W_ => (Has W_ (w.heap.size) 27 (tpC t a)) ∧ (Has W_ (v1g) 34 #[.slice X k x, .int .i64 yn]) ∧ (LkT W_ X k x (yl)) ∧ (Below w.heap.size w W_) ∧ (∃ o_ : Array Value, Has W_ (g8) 34 o_ ∧ o_.size = 2) ∧ (Has W_ (g8) 34 #[.slice X8 k8 x8, .int .i64 en]))) (fun _ ⟨s0, s1, s2, s3, s4, s5⟩ => ⟨s0, s1, s2, s3, s4⟩) ?_
                    have hHeld2 : (fun W_ => (Has W_ (w.heap.size) 27 (tpC t a)) ∧ (Has W_ (v1g) 34 #[.slice X k x, .int .i64 yn]) ∧ (LkT W_ X k x (yl)) ∧ (Below w.heap.size w W_) ∧ (∃ o_ : Array Value, Has W_ (g8) 34 o_ ∧ o_.size = 2) ∧ (Has W_ (g8) 34 #[.slice X8 k8 x8, .int .i64 en])) _ := ⟨has_rowo11 s0 (by omega) _, has_rowo11 s1 (by omega) _, s2.row h_ (by decide) _, below_row s3 (by omega) _, ⟨_, has_row11 h_ _, rfl⟩, has_row11 h_ _⟩
                    clear hHeld
                    have hHeld := hHeld2
                    clear hHeld2
                    clear hK K h_ e_ s0 s1 s2 s3
                    try simp only [Act.put]
                    refine wpAnyH_take (i := 13) (oi := ⟨some 19, _, _, _, _, _⟩) (v := ?_) rfl (by kernel_rfl) (by kernel_rfl) (by kernel_rfl) (fun _ _ _ h => h) (Or.inl ⟨by rfl, ?_⟩) (by assumption) ?_
                    rotate_left
                    · intro w_ hSw; (try dsimp only at hSw); go_simp <;> with_reducible rfl
                    simp only [Act.put, List.setIfInBounds_toArray, List.set_cons_zero, List.set_cons_succ]
                    refine wpAnyH_done (by kernel_rfl) ?_ _
                    go_wp2_with fail
                    go_meet
                    exact ⟨rfl, _, _, _, _, rfl, hHeld.2.2.2.2.2, HN8.out, hHeld.2.1, hHeld.2.2.1, hHeld.2.2.2.1, hHeld.1⟩
                  exact AllReadyH.nil
                exact AllReadyH.nil
              refine AllReadyH.cons (o := ⟨some 18, _, _, _, _, _⟩) rfl (fun K hK => ?_) ?_
              · go_simp
                obtain ⟨s0, s1, s2, s3⟩ := hHeld
                obtain ⟨g8, hg8⟩ : ∃ g8, wv.heap.size = g8 := ⟨_, rfl⟩
                have p0_g8 : w.heap.size < g8 := by rw [← hg8]; exact s0.lt
                have p1_g8 : v1g < g8 := by rw [← hg8]; exact s1.lt
                have p3_g8 : w.heap.size ≤ g8 := by rw [← hg8]; exact s3.size
                rw [hg8]
                refine hK.out _ _ ?_ (fun hHeld => ?_)
                · exact ⟨s0.beside _, s1.beside _, s2.under ((Below.refl _ _).alloc (Nat.le_refl _) _), below_al11 s3 _⟩
                refine wpAnyH_more11 (T := (fun W_ => (Has W_ (w.heap.size) 27 (tpC t a)) ∧ (Has W_ (v1g) 34 #[.slice X k x, .int .i64 yn]) ∧ (LkT W_ X k x (yl)) ∧ (Below w.heap.size w W_) ∧ (∃ o_ : Array Value, Has W_ (g8) 34 o_ ∧ o_.size = 2))) (fun _ ⟨s0, s1, s2, s3, s4⟩ => ⟨s0, s1, s2, s3⟩) ?_
                have hHeld2 : (fun W_ => (Has W_ (w.heap.size) 27 (tpC t a)) ∧ (Has W_ (v1g) 34 #[.slice X k x, .int .i64 yn]) ∧ (LkT W_ X k x (yl)) ∧ (Below w.heap.size w W_) ∧ (∃ o_ : Array Value, Has W_ (g8) 34 o_ ∧ o_.size = 2)) _ := ⟨s0.beside _, s1.beside _, s2.under ((Below.refl _ _).alloc (Nat.le_refl _) _), below_al11 s3 _, ⟨#[.slice none 0 0, .int .i64 0], (by rw [← hg8]; exact Has.made _ _ _), rfl⟩⟩
                clear hHeld
                have hHeld := hHeld2
                clear hHeld2
                clear hK K hg8 s0 s1 s2 s3
                try simp only [Act.put, List.setIfInBounds_toArray, List.set_cons_zero, List.set_cons_succ]
                refine wpAnyH_ready (rs := [7]) (by kernel_rfl) (by simp) ?_
                refine AllReadyH.cons (o := ⟨some 108, _, _, _, _, _⟩) rfl (fun K hK => ?_) ?_
                · go_simp
                  obtain ⟨s0, s1, s2, s3, s4⟩ := hHeld
                  refine (olc_free t a yl yn X k x _ ono (HT.out _ s3) HLT.out HCJ.out s2.1 s2.2.1 (by have := HKL.out; omega)).mono ?_
                  rw [HE.out]
                  rintro e_ q1 ⟨X8, k8, x8, rfl, hl_, hb_⟩
                  dsimp only at hl_ ⊢
                  have HN8 := Lib.hid (hl_)
                  go_wp2_with fail
                  refine hK.out _ _ ?_ (fun hHeld => ?_)
                  · exact ⟨s0.under hb_ s0.lt, s1.under hb_ s1.lt, s2.under hb_, s3.trans (hb_.mono s3.size), (let ⟨o_, h_, e_⟩ := s4; ⟨o_, h_.under hb_ h_.lt, e_⟩)⟩
                  clear hK K s0 s1 s2 s3 s4
                  try simp only [Act.put, List.setIfInBounds_toArray, List.set_cons_zero, List.set_cons_succ]
                  refine wpAnyH_take (i := 8) (oi := ⟨some 100, _, _, _, _, _⟩) (v := ?_) rfl (by kernel_rfl) (by kernel_rfl) (by kernel_rfl) (fun _ _ _ h => h) (Or.inl ⟨by rfl, ?_⟩) (by assumption) ?_
                  rotate_left
                  · intro w_ hSw; (try dsimp only at hSw); go_simp <;> with_reducible rfl
                  simp only [Act.put, List.setIfInBounds_toArray, List.set_cons_zero, List.set_cons_succ]
                  refine wpAnyH_take (i := 9) (oi := ⟨some 109, _, _, _, _, _⟩) (v := ?_) rfl (by kernel_rfl) (by kernel_rfl) (by kernel_rfl) (fun _ _ _ h => h) (Or.inl ⟨by rfl, ?_⟩) (by assumption) ?_
                  rotate_left
                  · intro w_ hSw; (try dsimp only at hSw); go_simp <;> with_reducible rfl
                  simp only [Act.put, List.setIfInBounds_toArray, List.set_cons_zero, List.set_cons_succ]
                  refine wpAnyH_take (i := 10) (oi := ⟨some 110, _, _, _, _, _⟩) (v := ?_) rfl (by kernel_rfl) (by kernel_rfl) (by kernel_rfl) (fun _ _ _ h => h) (Or.inl ⟨by rfl, ?_⟩) (by assumption) ?_
                  rotate_left
                  · intro w_ hSw; (try dsimp only at hSw); go_simp <;> with_reducible rfl
                  simp only [Act.put, List.setIfInBounds_toArray, List.set_cons_zero, List.set_cons_succ]
                  refine wpAnyH_ready (rs := [12]) (by kernel_rfl) (by simp) ?_
                  refine AllReadyH.cons (o := ⟨none, _, _, _, _, _⟩) rfl (fun K hK => ?_) ?_
                  · rw [if_pos (by rfl)]
                    obtain ⟨s0, s1, s2, s3, s4⟩ := hHeld
                    obtain ⟨o_, h_, e_⟩ := s4
                    refine wp_store_row 34 _ _ rfl (g8) #[.slice X8 k8 x8, .int .i64 en] (by rfl) (by rfl) 34 o_ h_.raw11 (by kernel_rfl) e_ (by kernel_rfl) ?_
                    have HN8 := Lib.hid (HN8.out.row h_ (by decide) #[.slice X8 k8 x8, .int .i64 en])
                    refine hK.out _ _ ?_ (fun hHeld => ?_)
                    · exact ⟨has_rowo11 s0 (by omega) _, has_rowo11 s1 (by omega) _, s2.row h_ (by decide) _, below_row s3 (by omega) _, ⟨_, has_row11 h_ _, rfl⟩⟩
                    refine wpAnyH_more11 (T := (fun W_ => (Has W_ (w.heap.size) 27 (tpC t a)) ∧ (Has W_ (v1g) 34 #[.slice X k x, .int .i64 yn]) ∧ (LkT W_ X k x (yl)) ∧ (Below w.heap.size w W_) ∧ (∃ o_ : Array Value, Has W_ (g8) 34 o_ ∧ o_.size = 2) ∧ (Has W_ (g8) 34 #[.slice X8 k8 x8, .int .i64 en]))) (fun _ ⟨s0, s1, s2, s3, s4, s5⟩ => ⟨s0, s1, s2, s3, s4⟩) ?_
                    have hHeld2 : (fun W_ => (Has W_ (w.heap.size) 27 (tpC t a)) ∧ (Has W_ (v1g) 34 #[.slice X k x, .int .i64 yn]) ∧ (LkT W_ X k x (yl)) ∧ (Below w.heap.size w W_) ∧ (∃ o_ : Array Value, Has W_ (g8) 34 o_ ∧ o_.size = 2) ∧ (Has W_ (g8) 34 #[.slice X8 k8 x8, .int .i64 en])) _ := ⟨has_rowo11 s0 (by omega) _, has_rowo11 s1 (by omega) _, s2.row h_ (by decide) _, below_row s3 (by omega) _, ⟨_, has_row11 h_ _, rfl⟩, has_row11 h_ _⟩
                    clear hHeld
                    have hHeld := hHeld2
                    clear hHeld2
                    clear hK K h_ e_ s0 s1 s2 s3
                    try simp only [Act.put]
                    refine wpAnyH_take (i := 13) (oi := ⟨some 19, _, _, _, _, _⟩) (v := ?_) rfl (by kernel_rfl) (by kernel_rfl) (by kernel_rfl) (fun _ _ _ h => h) (Or.inl ⟨by rfl, ?_⟩) (by assumption) ?_
                    rotate_left
                    · intro w_ hSw; (try dsimp only at hSw); go_simp <;> with_reducible rfl
                    simp only [Act.put, List.setIfInBounds_toArray, List.set_cons_zero, List.set_cons_succ]
                    refine wpAnyH_done (by kernel_rfl) ?_ _
                    go_wp2_with fail
                    go_meet
                    exact ⟨rfl, _, _, _, _, rfl, hHeld.2.2.2.2.2, HN8.out, hHeld.2.1, hHeld.2.2.1, hHeld.2.2.2.1, hHeld.1⟩
                  exact AllReadyH.nil
                exact AllReadyH.nil
              exact AllReadyH.nil
            case rest =>
              obtain ⟨rfl, g8, X8, k8, x8, rfl, h8_, hl8_, hx_, hk_, hb_, hg_⟩ := hcut
              have H8 := Lib.hid h8_; have HL8 := Lib.hid hl8_; have HX := Lib.hid hx_; have HK := Lib.hid hk_; have HB := Lib.hid hb_; have HG0 := Lib.hid hg_
              clear h8_ hl8_ hx_ hk_ hb_ hg_
              obtain ⟨u4, hu4⟩ : ∃ u4, u4 = wc := ⟨_, rfl⟩
              subst hu4
              by_cases z0 : ee = 0
              rotate_left
              · have q0 : (ee == 0) = false := by simp [z0]
                clear H8 HL8 HE
                have c0 : u4.cell? ⟨v1g, 0, none⟩ = some (.slice X k x) := HX.out.cell 0
                have HLK := Lib.hid (show yl.length = k from HK.out.1.1)
                have HKB := Lib.hid (show k ≤ 24 from by have h2_ := (may_iff.1 HKK.out.may).few; have h3_ := HLK.out; (try dsimp only at h2_); omega)
                go_upto_region 24 with fail
                go_wp2
                go_loopg [23, 24] k (fun kk v23 v24 wl => ∃ (j : Nat) (th : Bool), j ≤ k ∧ k - j ≤ kk ∧ v23 = .bool th ∧ v24 = .int .i64 j ∧ Hid ((yl.take j).any (fun z => eqK z ⟨route, train, eo⟩) = th) ∧ wl = u4)
                case atStart => exact ⟨0, false, by omega, by omega, rfl, rfl, Lib.hid rfl, rfl⟩
                case round =>
                  obtain ⟨j, th, hj, hjk, rfl, rfl, HTH, hw_⟩ := hrel
                  subst hw_
                  by_cases hjl : j < k
                  rotate_left
                  · obtain rfl : j = k := by omega
                    have y1 : ¬ (j : Int) < j := by omega
                    obtain rfl : th = true := by rw [← HTH.out, List.take_of_length_le (by rw [HLK.out]; exact Nat.le_refl _), List.any_eq_true]; exact ⟨_, HKK.out.mem, (eqK_iff _ _).2 rfl⟩
                    clear hj hjk hjl HTH HLK HKB
                    go_wp2
                    go_roundg (k1 - 1)
                    case measure => have := HIN.out; omega
                    case rel => exact ⟨i + 1, X, j, x, yl, yn, by have := HIN.out; omega, by have := HIN.out; omega, by rw [IntWalk.wrap64_in _ (by have h1_ := HIN.out; have h2_ := HMB.out; omega)]; go_num, HKK, HG0, HX, HK, HB⟩
                  obtain ⟨z, hz⟩ : ∃ z, yl[j]? = some z := ⟨_, List.getElem?_eq_getElem (by rw [HLK.out]; exact hjl)⟩
                  have HST := Lib.hid (show (yl.take (j + 1)).any (fun z => eqK z ⟨route, train, eo⟩) = (th || eqK z ⟨route, train, eo⟩) from by rw [List.take_add_one, hz, List.any_append, HTH.out]; simp)
                  obtain ⟨bz, oz, hX_, f0, f1, f2⟩ := HK.out.1.lock hz
                  have q1 := eql_lc16 z ⟨route, train, eo⟩
                  unfold lcA at q1
                  generalize eqK z ⟨route, train, eo⟩ = b at *
                  have y1 : (j : Int) < k := by omega
                  have y2 : (0 : Int) ≤ j := by omega
                  have HJN := Lib.hid (show j < k ∧ k - j ≤ gk from ⟨hjl, hjk⟩)
                  clear hjl hjk hj hz HTH
                  subst hX_
                  cases th with
                  | false =>
                    go_wp2
                    go_roundg (gk - 1)
                    case measure => have := HJN.out; omega
                    case rel => exact ⟨j + 1, b, by have := HJN.out; omega, by have := HJN.out; omega, rfl, by rw [IntWalk.wrap64_in _ (by have h1_ := HJN.out; have h2_ := HKB.out; omega)]; go_num, Lib.hid (by rw [HST.out]; exact Bool.false_or _), rfl⟩
                  | true =>
                    go_wp2
                    go_roundg (gk - 1)
                    case measure => have := HJN.out; omega
                    case rel => exact ⟨j + 1, true, by have := HJN.out; omega, by have := HJN.out; omega, rfl, by rw [IntWalk.wrap64_in _ (by have h1_ := HJN.out; have h2_ := HKB.out; omega)]; go_num, Lib.hid (by rw [HST.out]; exact Bool.true_or _), rfl⟩
              subst z0
              have HKN := Lib.hid (show HasK t ⟨route, train, eo⟩ ⟨el, en⟩ from by have h_ := HKK.out.free (no := ono) HNO.out (by rw [HE.out]); rw [HE.out] at h_; exact h_)
              obtain ⟨u5, hu5⟩ : ∃ u5, u4.setRow v1g #[.slice X8 k8 x8, .int .i64 en] = u5 := ⟨_, rfl⟩
              have HU5 := Lib.hid hu5
              have HXN := Lib.hid (show Has u5 v1g 34 #[.slice X8 k8 x8, .int .i64 en] from by rw [← hu5]; exact has_row11 HX.out _)
              have HK5 := Lib.hid (show LkT u5 X8 k8 x8 el from by rw [← hu5]; exact LkT.row HL8.out HX.out (by decide) _)
              have HB5 := Lib.hid (show Below w.heap.size w u5 from by rw [← hu5]; exact below_row (g := v1g) HB.out HGW.out _)
              have HG5 := Lib.hid (show Has u5 (w.heap.size) 27 (tpC t a) from by rw [← hu5]; exact has_rowo11 HG0.out (by have h1_ := HGL.out; omega) _)
              clear hu5 HE HKK
              go_upto_region 22 with (first | (with_reducible refine wpList_load_row (o := ⟨some 113, _, _, _, _, _⟩) rfl 34 _ rfl (g8) rfl 34 #[.slice X8 k8 x8, .int .i64 en] (0, 0) _ (H8.out).raw11 Try.underlying34 rfl (by kernel_rfl) ?_) | (with_reducible refine wpList_store_rowTo (o := ⟨none, _, _, _, _, _⟩) rfl 34 _ _ rfl rfl (v1g) #[.slice X8 k8 x8, .int .i64 en] rfl rfl 34 _ (HX.out).raw11 (by kernel_rfl) (by kernel_rfl) (by kernel_rfl) ?_))
              rw [HU5.out]
              clear HU5 H8 HL8 HX HK HB HG0
              have HX := HXN; have HK := HK5; have HB := HB5; have HG0 := HG5
              clear HXN HK5 HB5 HG5
              have HKK := HKN
              clear HKN HKL
              have c0 : u5.cell? ⟨v1g, 0, none⟩ = some (.slice X8 k8 x8) := HX.out.cell 0
              have HLK := Lib.hid (show el.length = k8 from HK.out.1.1)
              have HKB := Lib.hid (show k8 ≤ 24 from by have h2_ := (may_iff.1 HKK.out.may).few; have h3_ := HLK.out; (try dsimp only at h2_); omega)
              go_upto_region 24 with fail
              go_wp2
              go_loopg [23, 24] k8 (fun kk v23 v24 wl => ∃ (j : Nat) (th : Bool), j ≤ k8 ∧ k8 - j ≤ kk ∧ v23 = .bool th ∧ v24 = .int .i64 j ∧ Hid ((el.take j).any (fun z => eqK z ⟨route, train, eo⟩) = th) ∧ wl = u5)
              case atStart => exact ⟨0, false, by omega, by omega, rfl, rfl, Lib.hid rfl, rfl⟩
              case round =>
                obtain ⟨j, th, hj, hjk, rfl, rfl, HTH, hw_⟩ := hrel
                subst hw_
                by_cases hjl : j < k8
                rotate_left
                · obtain rfl : j = k8 := by omega
                  have y1 : ¬ (j : Int) < j := by omega
                  obtain rfl : th = true := by rw [← HTH.out, List.take_of_length_le (by rw [HLK.out]; exact Nat.le_refl _), List.any_eq_true]; exact ⟨_, HKK.out.mem, (eqK_iff _ _).2 rfl⟩
                  clear hj hjk hjl HTH HLK HKB
                  go_wp2
                  go_roundg (k1 - 1)
                  case measure => have := HIN.out; omega
                  case rel => exact ⟨i + 1, X8, j, x8, el, en, by have := HIN.out; omega, by have := HIN.out; omega, by rw [IntWalk.wrap64_in _ (by have h1_ := HIN.out; have h2_ := HMB.out; omega)]; go_num, HKK, HG0, HX, HK, HB⟩
                obtain ⟨z, hz⟩ : ∃ z, el[j]? = some z := ⟨_, List.getElem?_eq_getElem (by rw [HLK.out]; exact hjl)⟩
                have HST := Lib.hid (show (el.take (j + 1)).any (fun z => eqK z ⟨route, train, eo⟩) = (th || eqK z ⟨route, train, eo⟩) from by rw [List.take_add_one, hz, List.any_append, HTH.out]; simp)
                obtain ⟨bz, oz, hX_, f0, f1, f2⟩ := HK.out.1.lock hz
                have q1 := eql_lc16 z ⟨route, train, eo⟩
                unfold lcA at q1
                generalize eqK z ⟨route, train, eo⟩ = b at *
                have y1 : (j : Int) < k8 := by omega
                have y2 : (0 : Int) ≤ j := by omega
                have HJN := Lib.hid (show j < k8 ∧ k8 - j ≤ gk from ⟨hjl, hjk⟩)
                clear hjl hjk hj hz HTH
                subst hX_
                cases th with
                | false =>
                  go_wp2
                  go_roundg (gk - 1)
                  case measure => have := HJN.out; omega
                  case rel => exact ⟨j + 1, b, by have := HJN.out; omega, by have := HJN.out; omega, rfl, by rw [IntWalk.wrap64_in _ (by have h1_ := HJN.out; have h2_ := HKB.out; omega)]; go_num, Lib.hid (by rw [HST.out]; exact Bool.false_or _), rfl⟩
                | true =>
                  go_wp2
                  go_roundg (gk - 1)
                  case measure => have := HJN.out; omega
                  case rel => exact ⟨j + 1, true, by have := HJN.out; omega, by have := HJN.out; omega, rfl, by rw [IntWalk.wrap64_in _ (by have h1_ := HJN.out; have h2_ := HKB.out; omega)]; go_num, Lib.hid (by rw [HST.out]; exact Bool.true_or _), rfl⟩

end Go.Proofs.Yteioefgckigbcaa
