/-
  linesideref12, by contract: Sent.
-/
import Derived.Test.YtbohoejikihnfaaLkRefC

namespace Go.Proofs.Ytbohoejikihnfaa

open Go.RowKit

open Go.Great

def InsR (x : W0) (ws : List W0) (j : Nat) (b : Bool) (K : List W0) : Prop := insW x ws = K ++ (if b = true then ws.drop j else insW x (ws.drop j))
theorem ins_zero (x : W0) (ws : List W0) : InsR x ws 0 false [] := by simp [InsR]
theorem drop_step12 {ws : List W0} {j : Nat} {y : W0} (h : ws[j]? = some y) : ws.drop j = y :: ws.drop (j + 1) := by
  obtain ⟨h1, e⟩ := List.getElem?_eq_some_iff.1 h
  rw [List.drop_eq_getElem_cons h1, e]
theorem ins_put {x y : W0} {ws K : List W0} {j : Nat} (h : InsR x ws j false K) (hy : ws[j]? = some y) (hl : x.t < y.t) : InsR x ws (j + 1) true ((K ++ [x]) ++ [y]) := by
  unfold InsR at *
  rw [h, if_neg (by decide), if_pos rfl, drop_step12 hy, insW, if_pos hl]; simp
theorem ins_pass {x y : W0} {ws K : List W0} {j : Nat} (h : InsR x ws j false K) (hy : ws[j]? = some y) (hl : ¬ x.t < y.t) : InsR x ws (j + 1) false (K ++ [y]) := by
  unfold InsR at *
  rw [h, if_neg (by decide), if_neg (by decide), drop_step12 hy, insW, if_neg hl]; simp
theorem ins_after {x y : W0} {ws K : List W0} {j : Nat} (h : InsR x ws j true K) (hy : ws[j]? = some y) : InsR x ws (j + 1) true (K ++ [y]) := by
  unfold InsR at *
  rw [h, if_pos rfl, if_pos rfl, drop_step12 hy]; simp
theorem ins_end_t {x : W0} {ws K : List W0} {n : Nat} (hn : ws.length = n) (h : InsR x ws n true K) : insW x ws = K := by
  unfold InsR at h
  rw [h, if_pos rfl, ← hn]; simp
theorem ins_end_f {x : W0} {ws K : List W0} {n : Nat} (hn : ws.length = n) (h : InsR x ws n false K) : insW x ws = K ++ [x] := by
  unfold InsR at h
  rw [h, if_neg (by decide), ← hn]; simp [insW]
theorem fit_bounds {l : L0} {t now : Int} {xs : List Nat} (h : fitS l t now xs = true) : l.ws.length ≤ 8 ∧ (1 ≤ l.period ∧ l.period ≤ 1048576) ∧ (0 ≤ t ∧ t ≤ 4294967294) ∧ (0 ≤ now ∧ now ≤ 4294967294) := by
  unfold fitS mayL headOk at h
  simp only [Bool.and_eq_true, decide_eq_true_eq, isT_iff] at h
  omega
/-- The new wait's block is never the own row's. -/
theorem own_ne12 {w : World} {base g n c : Nat} {A : Option Addr} {l : List (W0 × Value)} {cs : Array Value} (ho : w.ownsRow base 48 4 (.slice A n c) n (cellsW l)) (hb : g < base) (_h : Has w g 48 cs) : Value.ownBlock (.slice A n c) ≠ some g := fun e => by
  have := (ho.lt g e).1
  omega

set_option maxRecDepth 100000 in
set_option maxHeartbeats 8000000 in
theorem rsent_any {P : Nat → Prop} (l : L0) (A : Option Addr) (c : Nat) (t now : Int) (B : Option Addr) (d : Nat) (xs : List Nat) (w : World) (hw : WsR P w A l.ws.length c l.ws) (hx : BodyR P w (.slice B xs.length d) xs) :
    Calls Try.prog 11 #[.agg (lkC l A c), .int .i64 t, .int .i64 now, .slice B xs.length d] w fun e w' => ∃ A' c', e = .returned (.tuple #[.agg (lkC (sentL l t now xs) A' c'), .int .i64 (sentE l t now xs)]) ∧ WsR (Nw P w w') w' A' (sentL l t now xs).ws.length c' (sentL l t now xs).ws ∧ Below w.heap.size w w' := by
  obtain ⟨wa, hwa⟩ : ∃ wa, (w.alloc (.cells (lkC l A c) 24)).alloc (.cells #[.int .i64 0, .int .i64 0, .int .i64 0, .int .i64 0, .slice none 0 0] 24) = wa := ⟨_, rfl⟩
  have hbwa : Below w.heap.size w wa := by rw [← hwa]; exact ((Below.refl _ _).alloc (Nat.le_refl _) _).alloc (by simp) _
  have h0 : Has wa (w.heap.size) 24 (lkC l A c) := by rw [← hwa]; exact ((Has.made _ _ _).beside _)
  have h1 : Has wa (w.heap.size + 1) 24 #[.int .i64 0, .int .i64 0, .int .i64 0, .int .i64 0, .slice none 0 0] := by rw [← hwa]; exact (has_at11 (by simp))
  have HWA := Lib.hid hwa; have HBWA := Lib.hid hbwa
  have HM := Lib.hid (fun W (hW : WsR P W A l.ws.length c l.ws) => rmay12_any l A c W hW)
  have HW0 := Lib.hid hw
  have HW := Lib.hid (hw.under hbwa)
  have HC := Lib.hid (fun W (hW : Below wa.heap.size wa W) => And.intro (h0.under hW h0.lt) (And.intro (h1.under hW h1.lt) (HW.out.under hW)))
  have HP := Lib.hid h0
  clear hwa hbwa h0 h1 hw
  have HBX := Lib.hid hx
  have HT := Lib.hid (fun W => rtime_any t W)
  have HTN := Lib.hid (fun W => rtime_any now W)
  have HSZ := Lib.hid (fun W => rsized_any B d xs W)
  have HPL := Lib.hid (fun hb W (hW : WsR P W A l.ws.length c l.ws) => rplace_any l A c t W hW hb)
  have hr1 : fitS l t now xs = false → sentL l t now xs = l0z ∧ sentE l t now xs = 1 := fun h => by
    have e : sentE l t now xs = 1 := by unfold sentE; rw [h]; rfl
    exact ⟨by unfold sentL; rw [e]; rfl, e⟩
  have hr2 : fitS l t now xs = true → hasT l.ws t = true → sentL l t now xs = l0z ∧ sentE l t now xs = 5 := fun h h2 => by
    have e : sentE l t now xs = 5 := by unfold sentE; rw [h, h2]; rfl
    exact ⟨by unfold sentL; rw [e]; rfl, e⟩
  have hr3 : fitS l t now xs = true → hasT l.ws t = false → 8 ≤ l.ws.length → sentL l t now xs = l0z ∧ sentE l t now xs = 3 := fun h h2 h3 => by
    have e : sentE l t now xs = 3 := by unfold sentE; rw [h, h2, if_pos rfl, if_neg (by decide), if_pos h3]
    exact ⟨by unfold sentL; rw [e]; rfl, e⟩
  have hr4 : fitS l t now xs = true → hasT l.ws t = false → ¬ 8 ≤ l.ws.length → sentL l t now xs = { l with ws := insW ⟨t, now + l.period, 0, xs⟩ l.ws } ∧ sentE l t now xs = 0 := fun h h2 h3 => by
    have e : sentE l t now xs = 0 := by unfold sentE; rw [h, h2, if_pos rfl, if_neg (by decide), if_neg h3]
    exact ⟨by unfold sentL; rw [e]; rfl, e⟩
  have HR1 := Lib.hid hr1; have HR2 := Lib.hid hr2; have HR3 := Lib.hid hr3; have HR4 := Lib.hid hr4
  have HFB := Lib.hid (fun h => fit_bounds (l := l) (t := t) (now := now) (xs := xs) h)
  clear hr1 hr2 hr3 hr4 hx
  generalize sentL l t now xs = r at *
  generalize sentE l t now xs = er at *
  by_cases hfit : fitS l t now xs = true
  rotate_left
  · rw [Bool.not_eq_true] at hfit
    obtain ⟨rfl, rfl⟩ := HR1.out hfit
    clear HR1 HR2 HR3 HR4 HFB HPL
    unfold fitS at hfit
    generalize mayL l = b1 at *
    generalize isT t = b2 at *
    generalize isT now = b3 at *
    generalize okB xs = b4 at *
    cases b1 with
    | false =>
      go_enter Try.func11, Try.ntmps11
      go_upto_region 1 with fail
      rw [HWA.out]
      clear HWA
      go_wp2_with (with_reducible refine wpList_load_row (o := ⟨some 18, _, _, _, _, _⟩) rfl 24 _ rfl (w.heap.size) rfl 24 (lkC l A c) (0, 0) _ (HP.out).raw11 Try.underlying24 rfl (by kernel_rfl) ?_)
      refine (HM.out _ (HW.out.under (Below.refl _ _))).mono ?_
      rintro e w1 ⟨rfl, hb1⟩
      obtain ⟨hp, hz, hw1⟩ := HC.out w1 hb1
      have HP1 := Lib.hid hp; have HZ1 := Lib.hid hz; have HW1 := Lib.hid hw1
      have HB1 := Lib.hid (HBWA.out.trans (hb1.mono HBWA.out.size))
      clear hp hz hw1 hb1 HP HC HM HBWA HW
      go_wp2_with fail
      refine (HT.out _).mono ?_
      rintro e w' ⟨rfl, rfl⟩
      go_wp2_with fail
      refine (HTN.out _).mono ?_
      rintro e w' ⟨rfl, rfl⟩
      go_wp2_with fail
      refine (HSZ.out _).mono ?_
      rintro e w' ⟨rfl, rfl⟩
      have HR := Lib.hid (has_row11 HZ1.out #[.int .i64 0, .int .i64 0, .int .i64 0, .int .i64 0, .slice none 0 0])
      have HBF := Lib.hid (below_row (g := w.heap.size + 1) HB1.out (by omega) #[.int .i64 0, .int .i64 0, .int .i64 0, .int .i64 0, .slice none 0 0])
      go_wp2_with (with_reducible refine wpList_store_rowTo (o := ⟨none, _, _, _, _, _⟩) rfl 24 _ _ rfl rfl (w.heap.size + 1) #[.int .i64 0, .int .i64 0, .int .i64 0, .int .i64 0, .slice none 0 0] rfl rfl 24 _ (HZ1.out).raw11 (by kernel_rfl) (by kernel_rfl) (by kernel_rfl) ?_)
      refine bodyPost_ret (results_row_tmp11 rfl _ _ (w.heap.size + 1) 24 _ _ rfl HR.out Try.underlying24 rfl (by kernel_rfl)) rfl ?_
      exact ⟨none, 0, rfl, WsR.nil _, HBF.out⟩
    | true =>
      cases b2 with
      | false =>
        go_enter Try.func11, Try.ntmps11
        go_upto_region 1 with fail
        rw [HWA.out]
        clear HWA
        go_wp2_with (with_reducible refine wpList_load_row (o := ⟨some 18, _, _, _, _, _⟩) rfl 24 _ rfl (w.heap.size) rfl 24 (lkC l A c) (0, 0) _ (HP.out).raw11 Try.underlying24 rfl (by kernel_rfl) ?_)
        refine (HM.out _ (HW.out.under (Below.refl _ _))).mono ?_
        rintro e w1 ⟨rfl, hb1⟩
        obtain ⟨hp, hz, hw1⟩ := HC.out w1 hb1
        have HP1 := Lib.hid hp; have HZ1 := Lib.hid hz; have HW1 := Lib.hid hw1
        have HB1 := Lib.hid (HBWA.out.trans (hb1.mono HBWA.out.size))
        clear hp hz hw1 hb1 HP HC HM HBWA HW
        go_wp2_with fail
        refine (HT.out _).mono ?_
        rintro e w' ⟨rfl, rfl⟩
        go_wp2_with fail
        refine (HTN.out _).mono ?_
        rintro e w' ⟨rfl, rfl⟩
        go_wp2_with fail
        refine (HSZ.out _).mono ?_
        rintro e w' ⟨rfl, rfl⟩
        have HR := Lib.hid (has_row11 HZ1.out #[.int .i64 0, .int .i64 0, .int .i64 0, .int .i64 0, .slice none 0 0])
        have HBF := Lib.hid (below_row (g := w.heap.size + 1) HB1.out (by omega) #[.int .i64 0, .int .i64 0, .int .i64 0, .int .i64 0, .slice none 0 0])
        go_wp2_with (with_reducible refine wpList_store_rowTo (o := ⟨none, _, _, _, _, _⟩) rfl 24 _ _ rfl rfl (w.heap.size + 1) #[.int .i64 0, .int .i64 0, .int .i64 0, .int .i64 0, .slice none 0 0] rfl rfl 24 _ (HZ1.out).raw11 (by kernel_rfl) (by kernel_rfl) (by kernel_rfl) ?_)
        refine bodyPost_ret (results_row_tmp11 rfl _ _ (w.heap.size + 1) 24 _ _ rfl HR.out Try.underlying24 rfl (by kernel_rfl)) rfl ?_
        exact ⟨none, 0, rfl, WsR.nil _, HBF.out⟩
      | true =>
        cases b3 with
        | false =>
          go_enter Try.func11, Try.ntmps11
          go_upto_region 1 with fail
          rw [HWA.out]
          clear HWA
          go_wp2_with (with_reducible refine wpList_load_row (o := ⟨some 18, _, _, _, _, _⟩) rfl 24 _ rfl (w.heap.size) rfl 24 (lkC l A c) (0, 0) _ (HP.out).raw11 Try.underlying24 rfl (by kernel_rfl) ?_)
          refine (HM.out _ (HW.out.under (Below.refl _ _))).mono ?_
          rintro e w1 ⟨rfl, hb1⟩
          obtain ⟨hp, hz, hw1⟩ := HC.out w1 hb1
          have HP1 := Lib.hid hp; have HZ1 := Lib.hid hz; have HW1 := Lib.hid hw1
          have HB1 := Lib.hid (HBWA.out.trans (hb1.mono HBWA.out.size))
          clear hp hz hw1 hb1 HP HC HM HBWA HW
          go_wp2_with fail
          refine (HT.out _).mono ?_
          rintro e w' ⟨rfl, rfl⟩
          go_wp2_with fail
          refine (HTN.out _).mono ?_
          rintro e w' ⟨rfl, rfl⟩
          go_wp2_with fail
          refine (HSZ.out _).mono ?_
          rintro e w' ⟨rfl, rfl⟩
          have HR := Lib.hid (has_row11 HZ1.out #[.int .i64 0, .int .i64 0, .int .i64 0, .int .i64 0, .slice none 0 0])
          have HBF := Lib.hid (below_row (g := w.heap.size + 1) HB1.out (by omega) #[.int .i64 0, .int .i64 0, .int .i64 0, .int .i64 0, .slice none 0 0])
          go_wp2_with (with_reducible refine wpList_store_rowTo (o := ⟨none, _, _, _, _, _⟩) rfl 24 _ _ rfl rfl (w.heap.size + 1) #[.int .i64 0, .int .i64 0, .int .i64 0, .int .i64 0, .slice none 0 0] rfl rfl 24 _ (HZ1.out).raw11 (by kernel_rfl) (by kernel_rfl) (by kernel_rfl) ?_)
          refine bodyPost_ret (results_row_tmp11 rfl _ _ (w.heap.size + 1) 24 _ _ rfl HR.out Try.underlying24 rfl (by kernel_rfl)) rfl ?_
          exact ⟨none, 0, rfl, WsR.nil _, HBF.out⟩
        | true =>
          cases b4 with
          | false =>
            go_enter Try.func11, Try.ntmps11
            go_upto_region 1 with fail
            rw [HWA.out]
            clear HWA
            go_wp2_with (with_reducible refine wpList_load_row (o := ⟨some 18, _, _, _, _, _⟩) rfl 24 _ rfl (w.heap.size) rfl 24 (lkC l A c) (0, 0) _ (HP.out).raw11 Try.underlying24 rfl (by kernel_rfl) ?_)
            refine (HM.out _ (HW.out.under (Below.refl _ _))).mono ?_
            rintro e w1 ⟨rfl, hb1⟩
            obtain ⟨hp, hz, hw1⟩ := HC.out w1 hb1
            have HP1 := Lib.hid hp; have HZ1 := Lib.hid hz; have HW1 := Lib.hid hw1
            have HB1 := Lib.hid (HBWA.out.trans (hb1.mono HBWA.out.size))
            clear hp hz hw1 hb1 HP HC HM HBWA HW
            go_wp2_with fail
            refine (HT.out _).mono ?_
            rintro e w' ⟨rfl, rfl⟩
            go_wp2_with fail
            refine (HTN.out _).mono ?_
            rintro e w' ⟨rfl, rfl⟩
            go_wp2_with fail
            refine (HSZ.out _).mono ?_
            rintro e w' ⟨rfl, rfl⟩
            have HR := Lib.hid (has_row11 HZ1.out #[.int .i64 0, .int .i64 0, .int .i64 0, .int .i64 0, .slice none 0 0])
            have HBF := Lib.hid (below_row (g := w.heap.size + 1) HB1.out (by omega) #[.int .i64 0, .int .i64 0, .int .i64 0, .int .i64 0, .slice none 0 0])
            go_wp2_with (with_reducible refine wpList_store_rowTo (o := ⟨none, _, _, _, _, _⟩) rfl 24 _ _ rfl rfl (w.heap.size + 1) #[.int .i64 0, .int .i64 0, .int .i64 0, .int .i64 0, .slice none 0 0] rfl rfl 24 _ (HZ1.out).raw11 (by kernel_rfl) (by kernel_rfl) (by kernel_rfl) ?_)
            refine bodyPost_ret (results_row_tmp11 rfl _ _ (w.heap.size + 1) 24 _ _ rfl HR.out Try.underlying24 rfl (by kernel_rfl)) rfl ?_
            exact ⟨none, 0, rfl, WsR.nil _, HBF.out⟩
          | true => exact absurd hfit (by decide)
  obtain ⟨hn8, hpb, htb, hnb⟩ := HFB.out hfit
  have h4 : mayL l = true ∧ isT t = true ∧ isT now = true ∧ okB xs = true := by simpa [fitS] using hfit
  rw [h4.1] at HM
  rw [h4.2.1] at HT
  rw [h4.2.2.1] at HTN
  rw [h4.2.2.2] at HSZ
  clear h4 HFB HR1
  have HR2' := Lib.hid (HR2.out hfit); have HR3' := Lib.hid (HR3.out hfit); have HR4' := Lib.hid (HR4.out hfit)
  obtain ⟨D, hD⟩ : ∃ D, now + l.period = D := ⟨_, rfl⟩
  have hrD : wrap64 (now + l.period) = D := by rw [← hD]; exact IntWalk.wrap64_in _ (by omega)
  rw [hD] at HR4'
  clear HR2 HR3 HR4 hfit hpb htb hnb hD
  generalize hasT l.ws t = bh at *
  go_enter Try.func11, Try.ntmps11
  go_upto_region 1 with fail
  rw [HWA.out]
  clear HWA
  go_wp2_with (with_reducible refine wpList_load_row (o := ⟨some 18, _, _, _, _, _⟩) rfl 24 _ rfl (w.heap.size) rfl 24 (lkC l A c) (0, 0) _ (HP.out).raw11 Try.underlying24 rfl (by kernel_rfl) ?_)
  refine (HM.out _ (HW.out.under (Below.refl _ _))).mono ?_
  rintro e w1 ⟨rfl, hb1⟩
  obtain ⟨hp, hz, hw1⟩ := HC.out w1 hb1
  have HP1 := Lib.hid hp; have HZ1 := Lib.hid hz; have HW1 := Lib.hid hw1
  have HB1 := Lib.hid (HBWA.out.trans (hb1.mono HBWA.out.size))
  clear hp hz hw1 hb1 HP HC HM HBWA HW
  go_wp2_with fail
  refine (HT.out _).mono ?_
  rintro e w' ⟨rfl, rfl⟩
  go_wp2_with fail
  refine (HTN.out _).mono ?_
  rintro e w' ⟨rfl, rfl⟩
  go_wp2_with fail
  refine (HSZ.out _).mono ?_
  rintro e w' ⟨rfl, rfl⟩
  go_wp2_with (with_reducible refine wpList_load_row (o := ⟨some 41, _, _, _, _, _⟩) rfl 24 _ rfl (w.heap.size) rfl 24 (lkC l A c) (0, 0) _ (HP1.out).raw11 Try.underlying24 rfl (by kernel_rfl) ?_)
  refine (HPL.out (by omega) _ HW1.out).mono ?_
  rintro e w2 ⟨⟨i, rfl, hi⟩, hb1⟩
  have HP2 := Lib.hid (HP1.out.under hb1 HP1.out.lt); have HZ2 := Lib.hid (HZ1.out.under hb1 HZ1.out.lt); have HW2 := Lib.hid (HW1.out.under hb1); have HB2 := Lib.hid (HB1.out.trans (hb1.mono HB1.out.size))
  clear HP1 HZ1 HW1 HB1 hb1
  clear HPL HT HTN HSZ
  cases bh with
  | true =>
    obtain ⟨rfl, rfl⟩ := HR2'.out (by first | rfl | trivial)
    clear HR2' HR3' HR4'
    have x1 : 0 ≤ i := by have := hi.2 rfl; omega
    clear hi
    have HR := Lib.hid (has_row11 HZ2.out #[.int .i64 0, .int .i64 0, .int .i64 0, .int .i64 0, .slice none 0 0])
    have HBF := Lib.hid (below_row (g := w.heap.size + 1) HB2.out (by omega) #[.int .i64 0, .int .i64 0, .int .i64 0, .int .i64 0, .slice none 0 0])
    go_wp2_with (with_reducible refine wpList_store_rowTo (o := ⟨none, _, _, _, _, _⟩) rfl 24 _ _ rfl rfl (w.heap.size + 1) #[.int .i64 0, .int .i64 0, .int .i64 0, .int .i64 0, .slice none 0 0] rfl rfl 24 _ (HZ2.out).raw11 (by kernel_rfl) (by kernel_rfl) (by kernel_rfl) ?_)
    refine bodyPost_ret (results_row_tmp11 rfl _ _ (w.heap.size + 1) 24 _ _ rfl HR.out Try.underlying24 rfl (by kernel_rfl)) rfl ?_
    exact ⟨none, 0, rfl, WsR.nil _, HBF.out⟩
  | false =>
  have x1 : ¬ 0 ≤ i := by have := mt hi.1 (by decide); omega
  clear hi HR2'
  have m4 : w2.cell? ⟨w.heap.size, 4, none⟩ = some (.slice A l.ws.length c) := HP2.out.cell 4
  by_cases h8 : 8 ≤ l.ws.length
  · have x2 : (8 : Int) ≤ (l.ws.length : Int) := by omega
    obtain ⟨rfl, rfl⟩ := HR3'.out (by first | rfl | trivial) h8
    clear HR3' HR4' h8
    have HR := Lib.hid (has_row11 HZ2.out #[.int .i64 0, .int .i64 0, .int .i64 0, .int .i64 0, .slice none 0 0])
    have HBF := Lib.hid (below_row (g := w.heap.size + 1) HB2.out (by omega) #[.int .i64 0, .int .i64 0, .int .i64 0, .int .i64 0, .slice none 0 0])
    go_wp2_with (with_reducible refine wpList_store_rowTo (o := ⟨none, _, _, _, _, _⟩) rfl 24 _ _ rfl rfl (w.heap.size + 1) #[.int .i64 0, .int .i64 0, .int .i64 0, .int .i64 0, .slice none 0 0] rfl rfl 24 _ (HZ2.out).raw11 (by kernel_rfl) (by kernel_rfl) (by kernel_rfl) ?_)
    refine bodyPost_ret (results_row_tmp11 rfl _ _ (w.heap.size + 1) 24 _ _ rfl HR.out Try.underlying24 rfl (by kernel_rfl)) rfl ?_
    exact ⟨none, 0, rfl, WsR.nil _, HBF.out⟩
  have x2 : ¬ (8 : Int) ≤ (l.ws.length : Int) := by omega
  obtain ⟨rfl, rfl⟩ := HR4'.out (by first | rfl | trivial) h8
  clear HR3' HR4' h8
  have hgl : w.heap.size + 1 < w2.heap.size := HZ2.out.lt
  go_upto_region 11 with fail
  clear x1 x2 m4
  have hmk : Has (w2.alloc (.cells #[.int .i64 0, .int .i64 0, .int .i64 0, .int .i64 0, .slice none 0 0] 24)) w2.heap.size 24 #[.int .i64 0, .int .i64 0, .int .i64 0, .int .i64 0, .slice none 0 0] := Has.made _ _ _
  obtain ⟨w3, hw3⟩ : ∃ w3, (w2.alloc (.cells #[.int .i64 0, .int .i64 0, .int .i64 0, .int .i64 0, .slice none 0 0] 24)).setRow w2.heap.size (lkC l A c) = w3 := ⟨_, rfl⟩
  have ho2 : Has w3 w2.heap.size 24 (lkC l A c) := by rw [← hw3]; exact has_row11 hmk _
  have hbw : Below w2.heap.size w2 w3 := by rw [← hw3]; exact below_row (g := w2.heap.size) ((Below.refl _ _).alloc (Nat.le_refl _) _) (Nat.le_refl _) _
  have HSZ_w3 := Lib.hid (show w3.heap.size = w2.heap.size + 1 by rw [← hw3]; simp)
  have HMK := Lib.hid hmk
  have HFR := Lib.hid hw3
  clear hw3 hmk
  go_upto_region 12 with (first | (with_reducible refine wpList_load_row (o := ⟨some 51, _, _, _, _, _⟩) rfl 24 _ rfl (w.heap.size) rfl 24 (lkC l A c) (0, 0) _ (HP2.out).raw11 Try.underlying24 rfl (by kernel_rfl) ?_) | (with_reducible refine wpList_store_rowTo (o := ⟨none, _, _, _, _, _⟩) rfl 24 _ _ rfl rfl (w2.heap.size) (lkC l A c) rfl rfl 24 _ (HMK.out).raw11 (by kernel_rfl) (by kernel_rfl) (by kernel_rfl) ?_))
  rw [HFR.out]
  clear HFR HMK
  have hpb := HP2.out.under hbw HP2.out.lt
  have a0 : w3.cell? ⟨w.heap.size, 0, none⟩ = some (.int .i64 l.period) := hpb.cell 0
  clear hpb
  have b4 : w3.cell? ⟨w2.heap.size, 4, none⟩ = some (.slice A l.ws.length c) := ho2.cell 4
  have z4 := ho2.thaw 4
  obtain ⟨w4, hw4⟩ : ∃ w4, w3.setCell ⟨w2.heap.size, 4, none⟩ (.slice none 0 0) = w4 := ⟨_, rfl⟩
  have ho4 : Has w4 (w2.heap.size) 24 #[.int .i64 l.period, .int .i64 l.most, .int .i64 l.quiet, .int .i64 l.heard, .slice none 0 0] := by rw [← hw4]; exact (ho2.stored 4 _).is11 (by kernel_rfl)
  have hb4 : Below (w2.heap.size) w2 w4 := by rw [← hw4]; exact hbw.setCell (p := ⟨w2.heap.size, 4, none⟩) (Nat.le_refl _) _
  have hsz4 : w4.heap.size = w2.heap.size + 1 := by rw [← hw4]; simpa using HSZ_w3.out
  have HW4 := Lib.hid hw4; have HO4 := Lib.hid ho4; have HB4 := Lib.hid hb4; have HSZ4 := Lib.hid hsz4
  clear hw4 ho4 hb4 ho2 hbw a0 hsz4
  go_upto_region 13 with fail
  rw [HW4.out]
  clear HW4 b4 z4
  have a0 : w4.cell? ⟨w.heap.size, 0, none⟩ = some (.int .i64 l.period) := (HP2.out.under HB4.out HP2.out.lt).cell 0
  obtain ⟨w5, hw5⟩ : ∃ w5, w4.alloc (.cells #[.int .i64 t, .int .i64 D, .int .i64 0, .slice B xs.length d] 48) = w5 := ⟨_, rfl⟩
  have hgw5 : Has w5 (w2.heap.size + 1) 48 #[.int .i64 t, .int .i64 D, .int .i64 0, .slice B xs.length d] := by rw [← hw5]; exact has_at11 HSZ4.out
  have ho5 : Has w5 (w2.heap.size) 24 #[.int .i64 l.period, .int .i64 l.most, .int .i64 l.quiet, .int .i64 l.heard, .slice none 0 0] := by rw [← hw5]; exact HO4.out.beside _
  have hb5 : Below w2.heap.size w2 w5 := by rw [← hw5]; exact HB4.out.alloc HB4.out.size _
  have HW5 := Lib.hid hw5; have HGW5 := Lib.hid hgw5; have HO5 := Lib.hid ho5; have HB5 := Lib.hid hb5
  clear hw5 hgw5 ho5 hb5 HO4 HB4 HSZ_w3
  go_upto_region 14 with fail
  simp only [HSZ4.out]
  rw [HW5.out]
  clear HW5 a0 HSZ4 hrD
  obtain ⟨n, hn⟩ : ∃ n, l.ws.length = n := ⟨_, rfl⟩
  rw [hn] at hn8
  have HN := Lib.hid hn
  have HXW : Hid (WsR P w A n c l.ws) := Lib.hid (hn ▸ HW0.out)
  have HXP : Hid (Has w2 w.heap.size 24 #[.int .i64 l.period, .int .i64 l.most, .int .i64 l.quiet, .int .i64 l.heard, .slice A n c]) := Lib.hid (hn ▸ HP2.out)
  have hm4 := (HXP.out.under HB5.out HXP.out.lt).cell 4
  have m4 : w5.cell? ⟨w.heap.size, 4, none⟩ = some (.slice A n c) := hm4
  clear hm4 HW2 HP2 HW0 hn
  go_wp2
  clear m4
  go_loopg [16, 17] n (fun kk v16 v17 wl => ∃ (j k : Nat) (b : Bool) (K : List W0) (A2 : Option Addr) (c2 : Nat), j ≤ n ∧ n - j ≤ kk ∧ k ≤ j + 1 ∧ (b = false → k ≤ j) ∧ v16 = .bool b ∧ v17 = .int .i64 j ∧ InsR ⟨t, D, 0, xs⟩ l.ws j b K ∧ Has wl (w2.heap.size) 24 #[.int .i64 l.period, .int .i64 l.most, .int .i64 l.quiet, .int .i64 l.heard, .slice A2 k c2] ∧ Has wl (w2.heap.size + 1) 48 #[.int .i64 t, .int .i64 D, .int .i64 0, .slice B xs.length d] ∧ OwW P (w2.heap.size + 2) w wl A2 k c2 K ∧ Below (w2.heap.size) w2 wl)
  case atStart => exact ⟨0, 0, false, [], none, 0, by omega, by omega, by omega, (fun _ => by omega), rfl, rfl, ins_zero _ _, HO5.out, HGW5.out, OwW.nil _ _ _, HB5.out⟩
  case round =>
    obtain ⟨j, k, b, K, A2, c2, hj, hjk, hkj, hkf, rfl, rfl, hins, hs, hgw, ho, hbl⟩ := hrel
    have HS := Lib.hid hs; have HO := Lib.hid ho; have HBL := Lib.hid hbl; have HGW := Lib.hid hgw; have HINS := Lib.hid hins
    have e4 : wr.cell? ⟨w.heap.size, 4, none⟩ = some (.slice A n c) := (HXP.out.under hbl HXP.out.lt).cell 4
    clear hs ho hbl hgw hins HO5 HB5 HGW5
    by_cases hlt : j < n
    rotate_left
    · obtain rfl : j = n := by omega
      have x1 : ¬ (j : Int) < j := by omega
      cases b with
      | true =>
        have hz := HZ2.out.under HBL.out HZ2.out.lt
        have HZ5 := Lib.hid hz
        have HR := Lib.hid (has_row11 hz #[.int .i64 l.period, .int .i64 l.most, .int .i64 l.quiet, .int .i64 l.heard, .slice A2 (k) c2])
        have hbf := below_row (g := w.heap.size + 1) (HB2.out.trans (HBL.out.mono HB2.out.size)) (by omega) #[.int .i64 l.period, .int .i64 l.most, .int .i64 l.quiet, .int .i64 l.heard, .slice A2 (k) c2]
        have hob := HO.out.keep (only_row11 wr (w.heap.size + 1) #[.int .i64 l.period, .int .i64 l.most, .int .i64 l.quiet, .int .i64 l.heard, .slice A2 (k) c2]) hz (by decide)
        have hsd := hob.done hbf (by omega)
        have HSD := Lib.hid hsd; have HBF := Lib.hid hbf; have HLN := Lib.hid hsd.len
        have HKE := Lib.hid (ins_end_t HN.out HINS.out)
        clear hz hbf hob hsd
        go_wp2_with (first | (with_reducible refine wpList_load_row (o := ⟨some 103, _, _, _, _, _⟩) rfl 24 _ rfl (w2.heap.size) rfl 24 #[.int .i64 l.period, .int .i64 l.most, .int .i64 l.quiet, .int .i64 l.heard, .slice A2 (k) c2] (0, 0) _ (HS.out).raw11 Try.underlying24 rfl (by kernel_rfl) ?_) | (with_reducible refine wpList_store_rowTo (o := ⟨none, _, _, _, _, _⟩) rfl 24 _ _ rfl rfl (w.heap.size + 1) #[.int .i64 l.period, .int .i64 l.most, .int .i64 l.quiet, .int .i64 l.heard, .slice A2 (k) c2] rfl rfl 24 _ (HZ5.out).raw11 (by kernel_rfl) (by kernel_rfl) (by kernel_rfl) ?_))
        refine bodyPost_ret (results_row_tmp11 rfl _ _ (w.heap.size + 1) 24 _ _ rfl HR.out Try.underlying24 rfl (by kernel_rfl)) rfl ?_
        rw [HKE.out]
        obtain rfl := HLN.out
        exact ⟨A2, c2, rfl, HSD.out, HBF.out⟩
      | false =>
        obtain ⟨l2, hl2, hk2, ho2, hp2⟩ := HO.out
        have hpw := (pushW (⟨t, D, 0, xs⟩, .slice B xs.length d) HBX.out ho2 (by have := HGW.out.lt; omega) (by omega))
        dsimp only at hpw
        obtain ⟨hN, hO, hC, h1, hBD⟩ := hpw
        have HL2 := Lib.hid hl2; have HK2 := Lib.hid hk2; have HP2' := Lib.hid hp2
        have hg2 : Has (wr.alloc (.cells #[.int .i64 t, .int .i64 D, .int .i64 0, .slice B xs.length d] 48)) (w2.heap.size) 24 #[.int .i64 l.period, .int .i64 l.most, .int .i64 l.quiet, .int .i64 l.heard, .slice A2 (k) c2] := (HS.out.beside _)
        have HG2 := Lib.hid hg2
        have hgw2 : Has (wr.alloc (.cells #[.int .i64 t, .int .i64 D, .int .i64 0, .slice B xs.length d] 48)) (w2.heap.size + 1) 48 #[.int .i64 t, .int .i64 D, .int .i64 0, .slice B xs.length d] := (HGW.out.beside _)
        have HGW2 := Lib.hid hgw2
        have hbd : Below (w2.heap.size) w2 (wr.alloc (.cells #[.int .i64 t, .int .i64 D, .int .i64 0, .slice B xs.length d] 48)) := HBL.out.alloc HBL.out.size _
        have HBDW := Lib.hid hbd
        have s4 : wr.cell? ⟨w2.heap.size, 4, none⟩ = some (.slice A2 (k) c2) := HS.out.cell 4
        have t4 : (wr.alloc (.cells #[.int .i64 t, .int .i64 D, .int .i64 0, .slice B xs.length d] 48)).cell? ⟨w2.heap.size, 4, none⟩ = some (.slice A2 (k) c2) := hg2.cell 4
        clear hl2 hk2 ho2 hp2 hg2 hgw2 hbd
        go_wp2_with (first | (with_reducible refine wpList_load_row (o := ⟨some 99, _, _, _, _, _⟩) rfl 48 _ rfl (w2.heap.size + 1) rfl 48 #[.int .i64 t, .int .i64 D, .int .i64 0, .slice B xs.length d] (0, 0) _ (HGW.out).raw11 Try.underlying48 rfl (by kernel_rfl) ?_) | (with_reducible refine wpList_push (o := ⟨some 101, _, _, _, _, _⟩) rfl (.tmp 98) (.tmp 100) 22 rfl (w2.heap.size + 2) 48 (.agg #[.int .i64 0, .int .i64 0, .int .i64 0, .slice none 0 0]) 4 48 Try.underlying22 info_wait ?hz1 (by decide) A2 (k) c2 (cellsW l2) ?hs1 hO ⟨wr.heap.size, 0, none⟩ 1 1 (wtC (⟨t, D, 0, xs⟩, .slice B xs.length d)) ?hx1 hN hC h1 hBD ?next1))
        all_goals try rfl
        case next1 =>
          intro A7 c7 wE7 ho7 hg7
          have hmE := HG2.out.grow hg7.out (fun e => own_apart hO.out HG2.out (by decide) e.symm)
          have r4 : wE7.cell? ⟨w2.heap.size, 4, none⟩ = some (.slice A2 (k) c2) := hmE.cell 4
          have f4 : wE7.frozen? ⟨w2.heap.size, 4, none⟩ = false := hmE.thaw 4
          have hbE := below_own HBDW.out HBDW.out.size hO.out (by omega) rfl hg7.out
          have hgF : wE7.grownBy (wE7.setCell ⟨w2.heap.size, 4, none⟩ (.slice A7 (k + 1) c7)) (some (w2.heap.size)) := only_store (only_refl _ _) rfl _
          have hoF := (OwW.snoc (x := ⟨t, D, 0, xs⟩) HL2.out HK2.out HP2'.out HBX.out rfl ho7.out).keep hgF hmE (by decide)
          have hsF := (hmE.stored 4 (.slice A7 (k + 1) c7)).is11 (show _ = #[.int .i64 l.period, .int .i64 l.most, .int .i64 l.quiet, .int .i64 l.heard, .slice A7 (k + 1) c7] from by kernel_rfl)
          have hbF := hbE.setCell (p := ⟨w2.heap.size, 4, none⟩) (Nat.le_refl _) (.slice A7 (k + 1) c7)
          have hwE : Has wE7 (w2.heap.size + 1) 48 #[.int .i64 t, .int .i64 D, .int .i64 0, .slice B xs.length d] := HGW2.out.grow hg7.out (fun e => own_ne12 hO.out (by omega) HGW2.out e.symm)
          have hwF := hwE.apart (p := ⟨w2.heap.size, 4, none⟩) (by show _ ≠ w2.heap.size; omega) (.slice A7 (k + 1) c7)
          have HO7 := Lib.hid hoF; have HS7 := Lib.hid hsF; have HGW7 := Lib.hid hwF; have HBL7 := Lib.hid hbF
          obtain ⟨wF7, hwF7⟩ : ∃ wF, wE7.setCell ⟨w2.heap.size, 4, none⟩ (.slice A7 (k + 1) c7) = wF := ⟨_, rfl⟩
          rw [hwF7] at HO7 HS7 HGW7 HBL7
          have HWF7 := Lib.hid hwF7
          clear hbE hgF hoF hsF hbF hmE hwE hwF ho7 hg7 hN hO hC h1 hBD HG2 HGW2 HBDW HL2 HK2 HP2' s4 t4 hwF7
          go_upto_region 24 with fail
          rw [HWF7.out]
          clear HWF7 r4 f4
          clear e4
          have hz := HZ2.out.under HBL7.out HZ2.out.lt
          have HZ5 := Lib.hid hz
          have HR := Lib.hid (has_row11 hz #[.int .i64 l.period, .int .i64 l.most, .int .i64 l.quiet, .int .i64 l.heard, .slice A7 (k + 1) c7])
          have hbf := below_row (g := w.heap.size + 1) (HB2.out.trans (HBL7.out.mono HB2.out.size)) (by omega) #[.int .i64 l.period, .int .i64 l.most, .int .i64 l.quiet, .int .i64 l.heard, .slice A7 (k + 1) c7]
          have hob := HO7.out.keep (only_row11 wF7 (w.heap.size + 1) #[.int .i64 l.period, .int .i64 l.most, .int .i64 l.quiet, .int .i64 l.heard, .slice A7 (k + 1) c7]) hz (by decide)
          have hsd := hob.done hbf (by omega)
          have HSD := Lib.hid hsd; have HBF := Lib.hid hbf; have HLN := Lib.hid hsd.len
          have HKE := Lib.hid (ins_end_f HN.out HINS.out)
          clear hz hbf hob hsd
          go_wp2_with (first | (with_reducible refine wpList_load_row (o := ⟨some 103, _, _, _, _, _⟩) rfl 24 _ rfl (w2.heap.size) rfl 24 #[.int .i64 l.period, .int .i64 l.most, .int .i64 l.quiet, .int .i64 l.heard, .slice A7 (k + 1) c7] (0, 0) _ (HS7.out).raw11 Try.underlying24 rfl (by kernel_rfl) ?_) | (with_reducible refine wpList_store_rowTo (o := ⟨none, _, _, _, _, _⟩) rfl 24 _ _ rfl rfl (w.heap.size + 1) #[.int .i64 l.period, .int .i64 l.most, .int .i64 l.quiet, .int .i64 l.heard, .slice A7 (k + 1) c7] rfl rfl 24 _ (HZ5.out).raw11 (by kernel_rfl) (by kernel_rfl) (by kernel_rfl) ?_))
          refine bodyPost_ret (results_row_tmp11 rfl _ _ (w.heap.size + 1) 24 _ _ rfl HR.out Try.underlying24 rfl (by kernel_rfl)) rfl ?_
          rw [HKE.out]
          refine ⟨A7, c7, ?_, ?_, HBF.out⟩
          · unfold lkC; dsimp only; rw [HLN.out]; rfl
          · rw [HLN.out]; exact HSD.out
    obtain ⟨x, hx⟩ : ∃ x, l.ws[j]? = some x := ⟨_, List.getElem?_eq_getElem (by rw [HN.out]; exact hlt)⟩
    obtain ⟨bk, off, v, rfl, -, -, d0, -, -, -⟩ := HXW.out.body (HB2.out.trans (HBL.out.mono HB2.out.size)) hx
    have HX := Lib.hid hx
    obtain ⟨T, due, tries, body⟩ := x
    dsimp only at d0
    have y0 : (0 : Int) ≤ j := by omega
    have y1 : (j : Int) < n := by omega
    clear hx v
    cases b with
    | true =>
      clear e4 d0
      obtain ⟨_, _, v, he, _, hbody, d0, d1, d2, d3⟩ := HXW.out.body (HB2.out.trans (HBL.out.mono HB2.out.size)) HX.out
      injection he with he
      injection he with he1 he2 _
      subst he1 he2
      dsimp only at d0 d1 d2 d3 hbody
      have HBY := Lib.hid hbody
      have e4 : wr.cell? ⟨w.heap.size, 4, none⟩ = some (.slice (some ⟨bk, off, none⟩) n c) := (HXP.out.under HBL.out HXP.out.lt).cell 4
      clear hbody
      obtain ⟨l2, hl2, hk2, ho2, hp2⟩ := HO.out
      have hpw := (pushW (⟨T, due, tries, body⟩, v) HBY.out ho2 (by have := HGW.out.lt; omega) (by omega)).drew
      dsimp only at hpw
      obtain ⟨hN, hO, hC, h1, hBD⟩ := hpw
      have HL2 := Lib.hid hl2; have HK2 := Lib.hid hk2; have HP2' := Lib.hid hp2
      have hg2 : Has (wr.alloc (.cells #[.int .i64 T, .int .i64 due, .int .i64 tries, v] 48)).drew (w2.heap.size) 24 #[.int .i64 l.period, .int .i64 l.most, .int .i64 l.quiet, .int .i64 l.heard, .slice A2 (k) c2] := (HS.out.beside _).draw
      have HG2 := Lib.hid hg2
      have hgw2 : Has (wr.alloc (.cells #[.int .i64 T, .int .i64 due, .int .i64 tries, v] 48)).drew (w2.heap.size + 1) 48 #[.int .i64 t, .int .i64 D, .int .i64 0, .slice B xs.length d] := (HGW.out.beside _).draw
      have HGW2 := Lib.hid hgw2
      have hbd : Below (w2.heap.size) w2 (wr.alloc (.cells #[.int .i64 T, .int .i64 due, .int .i64 tries, v] 48)).drew := below_dr11 (HBL.out.alloc HBL.out.size _)
      have HBDW := Lib.hid hbd
      have s4 : wr.cell? ⟨w2.heap.size, 4, none⟩ = some (.slice A2 (k) c2) := HS.out.cell 4
      have t4 : (wr.alloc (.cells #[.int .i64 T, .int .i64 due, .int .i64 tries, v] 48)).drew.cell? ⟨w2.heap.size, 4, none⟩ = some (.slice A2 (k) c2) := hg2.cell 4
      clear hl2 hk2 ho2 hp2 hg2 hgw2 hbd
      go_upto_region 21 with fail
      go_region_law (first
        | (refine step_push (o := ⟨some 93, _, _, _, _, _⟩) rfl (.tmp 86) (.tmp 92) 22 rfl (w2.heap.size + 2) 48 (.agg #[.int .i64 0, .int .i64 0, .int .i64 0, .slice none 0 0]) 4 48 Try.underlying22 info_wait rfl (by decide) A2 (k) c2 (cellsW l2) rfl hO ⟨wr.heap.size, 0, none⟩ 1 1 (wtC (⟨T, due, tries, body⟩, v)) rfl hN hC h1 hBD ?_; intro A8 c8 wE8 ho8 hg8; have hmE := HG2.out.grow hg8.out (fun e => own_apart hO.out HG2.out (by decide) e.symm); have r4 : wE8.cell? ⟨w2.heap.size, 4, none⟩ = some (.slice A2 (k) c2) := hmE.cell 4; have f4 : wE8.frozen? ⟨w2.heap.size, 4, none⟩ = false := hmE.thaw 4))
      all_goals
        have hbE := below_own HBDW.out HBDW.out.size hO.out (by omega) rfl hg8.out
        have hgF : wE8.grownBy (wE8.setCell ⟨w2.heap.size, 4, none⟩ (.slice A8 (k + 1) c8)) (some (w2.heap.size)) := only_store (only_refl _ _) rfl _
        have hoF := (OwW.snoc (x := ⟨T, due, tries, body⟩) HL2.out HK2.out HP2'.out HBY.out rfl ho8.out).keep hgF hmE (by decide)
        have hsF := (hmE.stored 4 (.slice A8 (k + 1) c8)).is11 (show _ = #[.int .i64 l.period, .int .i64 l.most, .int .i64 l.quiet, .int .i64 l.heard, .slice A8 (k + 1) c8] from by kernel_rfl)
        have hbF := hbE.setCell (p := ⟨w2.heap.size, 4, none⟩) (Nat.le_refl _) (.slice A8 (k + 1) c8)
        have hwE : Has wE8 (w2.heap.size + 1) 48 #[.int .i64 t, .int .i64 D, .int .i64 0, .slice B xs.length d] := HGW2.out.grow hg8.out (fun e => own_ne12 hO.out (by omega) HGW2.out e.symm)
        have hwF := hwE.apart (p := ⟨w2.heap.size, 4, none⟩) (by show _ ≠ w2.heap.size; omega) (.slice A8 (k + 1) c8)
        have HO8 := Lib.hid hoF; have HS8 := Lib.hid hsF; have HGW8 := Lib.hid hwF; have HBL8 := Lib.hid hbF
        obtain ⟨wF8, hwF8⟩ : ∃ wF, wE8.setCell ⟨w2.heap.size, 4, none⟩ (.slice A8 (k + 1) c8) = wF := ⟨_, rfl⟩
        rw [hwF8] at HO8 HS8 HGW8 HBL8
        have HWF8 := Lib.hid hwF8
        clear hbE hgF hoF hsF hbF hmE hwE hwF ho8 hg8 hN hO hC h1 hBD HG2 HGW2 HBDW HL2 HK2 HP2' s4 t4 hwF8
        clear d0 d1 d2 d3 e4
        go_wp2
        rw [HWF8.out]
        go_roundg (gk - 1)
        case measure => omega
        case rel => exact ⟨j + 1, k + 1, true, K ++ [⟨T, due, tries, body⟩], A8, c8, by omega, by omega, by omega, (fun h => by cases h), rfl, by go_num, ins_after HINS.out HX.out, HS8.out, HGW8.out, HO8.out, HBL8.out⟩
    | false =>
      have hk0 : k ≤ j := by first | exact hkf rfl | exact hkf trivial | exact hkf
      clear hkf
      by_cases hT : t < T
      rotate_left
      · have hTd : decide (t < T) = false := decide_eq_false hT
        have HTT := Lib.hid hT
        go_upto_region 21 with fail
        clear e4 d0 hT hTd
        obtain ⟨_, _, v, he, _, hbody, d0, d1, d2, d3⟩ := HXW.out.body (HB2.out.trans (HBL.out.mono HB2.out.size)) HX.out
        injection he with he
        injection he with he1 he2 _
        subst he1 he2
        dsimp only at d0 d1 d2 d3 hbody
        have HBY := Lib.hid hbody
        have e4 : wr.cell? ⟨w.heap.size, 4, none⟩ = some (.slice (some ⟨bk, off, none⟩) n c) := (HXP.out.under HBL.out HXP.out.lt).cell 4
        clear hbody
        obtain ⟨l2, hl2, hk2, ho2, hp2⟩ := HO.out
        have hpw := (pushW (⟨T, due, tries, body⟩, v) HBY.out ho2 (by have := HGW.out.lt; omega) (by omega)).drew
        dsimp only at hpw
        obtain ⟨hN, hO, hC, h1, hBD⟩ := hpw
        have HL2 := Lib.hid hl2; have HK2 := Lib.hid hk2; have HP2' := Lib.hid hp2
        have hg2 : Has (wr.alloc (.cells #[.int .i64 T, .int .i64 due, .int .i64 tries, v] 48)).drew (w2.heap.size) 24 #[.int .i64 l.period, .int .i64 l.most, .int .i64 l.quiet, .int .i64 l.heard, .slice A2 (k) c2] := (HS.out.beside _).draw
        have HG2 := Lib.hid hg2
        have hgw2 : Has (wr.alloc (.cells #[.int .i64 T, .int .i64 due, .int .i64 tries, v] 48)).drew (w2.heap.size + 1) 48 #[.int .i64 t, .int .i64 D, .int .i64 0, .slice B xs.length d] := (HGW.out.beside _).draw
        have HGW2 := Lib.hid hgw2
        have hbd : Below (w2.heap.size) w2 (wr.alloc (.cells #[.int .i64 T, .int .i64 due, .int .i64 tries, v] 48)).drew := below_dr11 (HBL.out.alloc HBL.out.size _)
        have HBDW := Lib.hid hbd
        have s4 : wr.cell? ⟨w2.heap.size, 4, none⟩ = some (.slice A2 (k) c2) := HS.out.cell 4
        have t4 : (wr.alloc (.cells #[.int .i64 T, .int .i64 due, .int .i64 tries, v] 48)).drew.cell? ⟨w2.heap.size, 4, none⟩ = some (.slice A2 (k) c2) := hg2.cell 4
        clear hl2 hk2 ho2 hp2 hg2 hgw2 hbd
        go_upto_region 21 with fail
        go_region_law (first
          | (refine step_push (o := ⟨some 93, _, _, _, _, _⟩) rfl (.tmp 86) (.tmp 92) 22 rfl (w2.heap.size + 2) 48 (.agg #[.int .i64 0, .int .i64 0, .int .i64 0, .slice none 0 0]) 4 48 Try.underlying22 info_wait rfl (by decide) A2 (k) c2 (cellsW l2) rfl hO ⟨wr.heap.size, 0, none⟩ 1 1 (wtC (⟨T, due, tries, body⟩, v)) rfl hN hC h1 hBD ?_; intro A8 c8 wE8 ho8 hg8; have hmE := HG2.out.grow hg8.out (fun e => own_apart hO.out HG2.out (by decide) e.symm); have r4 : wE8.cell? ⟨w2.heap.size, 4, none⟩ = some (.slice A2 (k) c2) := hmE.cell 4; have f4 : wE8.frozen? ⟨w2.heap.size, 4, none⟩ = false := hmE.thaw 4))
        all_goals
          have hbE := below_own HBDW.out HBDW.out.size hO.out (by omega) rfl hg8.out
          have hgF : wE8.grownBy (wE8.setCell ⟨w2.heap.size, 4, none⟩ (.slice A8 (k + 1) c8)) (some (w2.heap.size)) := only_store (only_refl _ _) rfl _
          have hoF := (OwW.snoc (x := ⟨T, due, tries, body⟩) HL2.out HK2.out HP2'.out HBY.out rfl ho8.out).keep hgF hmE (by decide)
          have hsF := (hmE.stored 4 (.slice A8 (k + 1) c8)).is11 (show _ = #[.int .i64 l.period, .int .i64 l.most, .int .i64 l.quiet, .int .i64 l.heard, .slice A8 (k + 1) c8] from by kernel_rfl)
          have hbF := hbE.setCell (p := ⟨w2.heap.size, 4, none⟩) (Nat.le_refl _) (.slice A8 (k + 1) c8)
          have hwE : Has wE8 (w2.heap.size + 1) 48 #[.int .i64 t, .int .i64 D, .int .i64 0, .slice B xs.length d] := HGW2.out.grow hg8.out (fun e => own_ne12 hO.out (by omega) HGW2.out e.symm)
          have hwF := hwE.apart (p := ⟨w2.heap.size, 4, none⟩) (by show _ ≠ w2.heap.size; omega) (.slice A8 (k + 1) c8)
          have HO8 := Lib.hid hoF; have HS8 := Lib.hid hsF; have HGW8 := Lib.hid hwF; have HBL8 := Lib.hid hbF
          obtain ⟨wF8, hwF8⟩ : ∃ wF, wE8.setCell ⟨w2.heap.size, 4, none⟩ (.slice A8 (k + 1) c8) = wF := ⟨_, rfl⟩
          rw [hwF8] at HO8 HS8 HGW8 HBL8
          have HWF8 := Lib.hid hwF8
          clear hbE hgF hoF hsF hbF hmE hwE hwF ho8 hg8 hN hO hC h1 hBD HG2 HGW2 HBDW HL2 HK2 HP2' s4 t4 hwF8
          clear d0 d1 d2 d3 e4
          go_wp2
          rw [HWF8.out]
          go_roundg (gk - 1)
          case measure => omega
          case rel => exact ⟨j + 1, k + 1, false, K ++ [⟨T, due, tries, body⟩], A8, c8, by omega, by omega, by omega, (fun _ => by omega), rfl, by go_num, ins_pass HINS.out HX.out (show ¬ t < T by have := HTT.out; omega), HS8.out, HGW8.out, HO8.out, HBL8.out⟩
      have hTd : decide (t < T) = true := decide_eq_true hT
      have HTT := Lib.hid hT
      go_upto_region 19 with fail
      clear e4 d0 hT hTd
      obtain ⟨l2, hl2, hk2, ho2, hp2⟩ := HO.out
      have hpw := (pushW (⟨t, D, 0, xs⟩, .slice B xs.length d) HBX.out ho2 (by have := HGW.out.lt; omega) (by omega))
      dsimp only at hpw
      obtain ⟨hN, hO, hC, h1, hBD⟩ := hpw
      have HL2 := Lib.hid hl2; have HK2 := Lib.hid hk2; have HP2' := Lib.hid hp2
      have hg2 : Has (wr.alloc (.cells #[.int .i64 t, .int .i64 D, .int .i64 0, .slice B xs.length d] 48)) (w2.heap.size) 24 #[.int .i64 l.period, .int .i64 l.most, .int .i64 l.quiet, .int .i64 l.heard, .slice A2 (k) c2] := (HS.out.beside _)
      have HG2 := Lib.hid hg2
      have hgw2 : Has (wr.alloc (.cells #[.int .i64 t, .int .i64 D, .int .i64 0, .slice B xs.length d] 48)) (w2.heap.size + 1) 48 #[.int .i64 t, .int .i64 D, .int .i64 0, .slice B xs.length d] := (HGW.out.beside _)
      have HGW2 := Lib.hid hgw2
      have hbd : Below (w2.heap.size) w2 (wr.alloc (.cells #[.int .i64 t, .int .i64 D, .int .i64 0, .slice B xs.length d] 48)) := HBL.out.alloc HBL.out.size _
      have HBDW := Lib.hid hbd
      have s4 : wr.cell? ⟨w2.heap.size, 4, none⟩ = some (.slice A2 (k) c2) := HS.out.cell 4
      have t4 : (wr.alloc (.cells #[.int .i64 t, .int .i64 D, .int .i64 0, .slice B xs.length d] 48)).cell? ⟨w2.heap.size, 4, none⟩ = some (.slice A2 (k) c2) := hg2.cell 4
      clear hl2 hk2 ho2 hp2 hg2 hgw2 hbd
      go_wp2_with (first | (with_reducible refine wpList_load_row (o := ⟨some 81, _, _, _, _, _⟩) rfl 48 _ rfl (w2.heap.size + 1) rfl 48 #[.int .i64 t, .int .i64 D, .int .i64 0, .slice B xs.length d] (0, 0) _ (HGW.out).raw11 Try.underlying48 rfl (by kernel_rfl) ?_) | (with_reducible refine wpList_push (o := ⟨some 83, _, _, _, _, _⟩) rfl (.tmp 80) (.tmp 82) 22 rfl (w2.heap.size + 2) 48 (.agg #[.int .i64 0, .int .i64 0, .int .i64 0, .slice none 0 0]) 4 48 Try.underlying22 info_wait ?hz2 (by decide) A2 (k) c2 (cellsW l2) ?hs2 hO ⟨wr.heap.size, 0, none⟩ 1 1 (wtC (⟨t, D, 0, xs⟩, .slice B xs.length d)) ?hx2 hN hC h1 hBD ?next2))
      all_goals try rfl
      case next2 =>
        intro A7 c7 wE7 ho7 hg7
        have hmE := HG2.out.grow hg7.out (fun e => own_apart hO.out HG2.out (by decide) e.symm)
        have r4 : wE7.cell? ⟨w2.heap.size, 4, none⟩ = some (.slice A2 (k) c2) := hmE.cell 4
        have f4 : wE7.frozen? ⟨w2.heap.size, 4, none⟩ = false := hmE.thaw 4
        have hbE := below_own HBDW.out HBDW.out.size hO.out (by omega) rfl hg7.out
        have hgF : wE7.grownBy (wE7.setCell ⟨w2.heap.size, 4, none⟩ (.slice A7 (k + 1) c7)) (some (w2.heap.size)) := only_store (only_refl _ _) rfl _
        have hoF := (OwW.snoc (x := ⟨t, D, 0, xs⟩) HL2.out HK2.out HP2'.out HBX.out rfl ho7.out).keep hgF hmE (by decide)
        have hsF := (hmE.stored 4 (.slice A7 (k + 1) c7)).is11 (show _ = #[.int .i64 l.period, .int .i64 l.most, .int .i64 l.quiet, .int .i64 l.heard, .slice A7 (k + 1) c7] from by kernel_rfl)
        have hbF := hbE.setCell (p := ⟨w2.heap.size, 4, none⟩) (Nat.le_refl _) (.slice A7 (k + 1) c7)
        have hwE : Has wE7 (w2.heap.size + 1) 48 #[.int .i64 t, .int .i64 D, .int .i64 0, .slice B xs.length d] := HGW2.out.grow hg7.out (fun e => own_ne12 hO.out (by omega) HGW2.out e.symm)
        have hwF := hwE.apart (p := ⟨w2.heap.size, 4, none⟩) (by show _ ≠ w2.heap.size; omega) (.slice A7 (k + 1) c7)
        have HO7 := Lib.hid hoF; have HS7 := Lib.hid hsF; have HGW7 := Lib.hid hwF; have HBL7 := Lib.hid hbF
        obtain ⟨wF7, hwF7⟩ : ∃ wF, wE7.setCell ⟨w2.heap.size, 4, none⟩ (.slice A7 (k + 1) c7) = wF := ⟨_, rfl⟩
        rw [hwF7] at HO7 HS7 HGW7 HBL7
        have HWF7 := Lib.hid hwF7
        clear hbE hgF hoF hsF hbF hmE hwE hwF ho7 hg7 hN hO hC h1 hBD HG2 HGW2 HBDW HL2 HK2 HP2' s4 t4 hwF7
        go_upto_region 20 with fail
        rw [HWF7.out]
        clear HWF7 r4 f4
        obtain ⟨_, _, v, he, _, hbody, d0, d1, d2, d3⟩ := HXW.out.body (HB2.out.trans (HBL7.out.mono HB2.out.size)) HX.out
        injection he with he
        injection he with he1 he2 _
        subst he1 he2
        dsimp only at d0 d1 d2 d3 hbody
        have HBY := Lib.hid hbody
        have e4 : wF7.cell? ⟨w.heap.size, 4, none⟩ = some (.slice (some ⟨bk, off, none⟩) n c) := (HXP.out.under HBL7.out HXP.out.lt).cell 4
        clear hbody
        obtain ⟨l2, hl2, hk2, ho2, hp2⟩ := HO7.out
        have hpw := (pushW (⟨T, due, tries, body⟩, v) HBY.out ho2 (by have := HGW7.out.lt; omega) (by omega)).drew
        dsimp only at hpw
        obtain ⟨hN, hO, hC, h1, hBD⟩ := hpw
        have HL2 := Lib.hid hl2; have HK2 := Lib.hid hk2; have HP2' := Lib.hid hp2
        have hg2 : Has (wF7.alloc (.cells #[.int .i64 T, .int .i64 due, .int .i64 tries, v] 48)).drew (w2.heap.size) 24 #[.int .i64 l.period, .int .i64 l.most, .int .i64 l.quiet, .int .i64 l.heard, .slice A7 (k + 1) c7] := (HS7.out.beside _).draw
        have HG2 := Lib.hid hg2
        have hgw2 : Has (wF7.alloc (.cells #[.int .i64 T, .int .i64 due, .int .i64 tries, v] 48)).drew (w2.heap.size + 1) 48 #[.int .i64 t, .int .i64 D, .int .i64 0, .slice B xs.length d] := (HGW7.out.beside _).draw
        have HGW2 := Lib.hid hgw2
        have hbd : Below (w2.heap.size) w2 (wF7.alloc (.cells #[.int .i64 T, .int .i64 due, .int .i64 tries, v] 48)).drew := below_dr11 (HBL7.out.alloc HBL7.out.size _)
        have HBDW := Lib.hid hbd
        have s4 : wF7.cell? ⟨w2.heap.size, 4, none⟩ = some (.slice A7 (k + 1) c7) := HS7.out.cell 4
        have t4 : (wF7.alloc (.cells #[.int .i64 T, .int .i64 due, .int .i64 tries, v] 48)).drew.cell? ⟨w2.heap.size, 4, none⟩ = some (.slice A7 (k + 1) c7) := hg2.cell 4
        clear hl2 hk2 ho2 hp2 hg2 hgw2 hbd
        go_upto_region 21 with fail
        go_region_law (first
          | (refine step_push (o := ⟨some 93, _, _, _, _, _⟩) rfl (.tmp 86) (.tmp 92) 22 rfl (w2.heap.size + 2) 48 (.agg #[.int .i64 0, .int .i64 0, .int .i64 0, .slice none 0 0]) 4 48 Try.underlying22 info_wait rfl (by decide) A7 (k + 1) c7 (cellsW l2) rfl hO ⟨wF7.heap.size, 0, none⟩ 1 1 (wtC (⟨T, due, tries, body⟩, v)) rfl hN hC h1 hBD ?_; intro A8 c8 wE8 ho8 hg8; have hmE := HG2.out.grow hg8.out (fun e => own_apart hO.out HG2.out (by decide) e.symm); have r4 : wE8.cell? ⟨w2.heap.size, 4, none⟩ = some (.slice A7 (k + 1) c7) := hmE.cell 4; have f4 : wE8.frozen? ⟨w2.heap.size, 4, none⟩ = false := hmE.thaw 4))
        all_goals
          have hbE := below_own HBDW.out HBDW.out.size hO.out (by omega) rfl hg8.out
          have hgF : wE8.grownBy (wE8.setCell ⟨w2.heap.size, 4, none⟩ (.slice A8 (k + 1 + 1) c8)) (some (w2.heap.size)) := only_store (only_refl _ _) rfl _
          have hoF := (OwW.snoc (x := ⟨T, due, tries, body⟩) HL2.out HK2.out HP2'.out HBY.out rfl ho8.out).keep hgF hmE (by decide)
          have hsF := (hmE.stored 4 (.slice A8 (k + 1 + 1) c8)).is11 (show _ = #[.int .i64 l.period, .int .i64 l.most, .int .i64 l.quiet, .int .i64 l.heard, .slice A8 (k + 1 + 1) c8] from by kernel_rfl)
          have hbF := hbE.setCell (p := ⟨w2.heap.size, 4, none⟩) (Nat.le_refl _) (.slice A8 (k + 1 + 1) c8)
          have hwE : Has wE8 (w2.heap.size + 1) 48 #[.int .i64 t, .int .i64 D, .int .i64 0, .slice B xs.length d] := HGW2.out.grow hg8.out (fun e => own_ne12 hO.out (by omega) HGW2.out e.symm)
          have hwF := hwE.apart (p := ⟨w2.heap.size, 4, none⟩) (by show _ ≠ w2.heap.size; omega) (.slice A8 (k + 1 + 1) c8)
          have HO8 := Lib.hid hoF; have HS8 := Lib.hid hsF; have HGW8 := Lib.hid hwF; have HBL8 := Lib.hid hbF
          obtain ⟨wF8, hwF8⟩ : ∃ wF, wE8.setCell ⟨w2.heap.size, 4, none⟩ (.slice A8 (k + 1 + 1) c8) = wF := ⟨_, rfl⟩
          rw [hwF8] at HO8 HS8 HGW8 HBL8
          have HWF8 := Lib.hid hwF8
          clear hbE hgF hoF hsF hbF hmE hwE hwF ho8 hg8 hN hO hC h1 hBD HG2 HGW2 HBDW HL2 HK2 HP2' s4 t4 hwF8
          clear d0 d1 d2 d3 e4
          go_wp2
          rw [HWF8.out]
          go_roundg (gk - 1)
          case measure => omega
          case rel => exact ⟨j + 1, k + 1 + 1, true, (K ++ [⟨t, D, 0, xs⟩]) ++ [⟨T, due, tries, body⟩], A8, c8, by omega, by omega, by omega, (fun h => by cases h), rfl, by go_num, ins_put HINS.out HX.out (show t < T by have := HTT.out; omega), HS8.out, HGW8.out, HO8.out, HBL8.out⟩
end Go.Proofs.Ytbohoejikihnfaa
