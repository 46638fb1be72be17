/-
  linesidelaw16: few, play.
-/
import Derived.Test.YteioefgckigbcaaGreatLawAwake16

import Derived.Test.YteioefgckigbcaaGreatOpenLc

import Derived.BigQuiet

import Derived.IntWalk

namespace Go.Proofs.YteioefgckigbcaaGreat

open Go.RowKit

open Go.Great

set_option maxRecDepth 100000 in
set_option maxHeartbeats 8000000 in
theorem few16_any (t : Tp3) (a : TpA) (A : Option Addr) (n c : Nat) (w : World) (ht : TopR w t a) :
    Calls Tryz.prog 6 #[.agg (tpC t a), .slice A n c] w fun e w' => e = .returned (.bool (lightT t && decide (n ≤ 100))) ∧ Below w.heap.size w w' := by
  obtain ⟨wa, hwa⟩ : ∃ wa, w.alloc (.cells (tpC t a) 27) = wa := ⟨_, rfl⟩
  have hbwa : Below w.heap.size w wa := by rw [← hwa]; exact (Below.refl _ _).alloc (Nat.le_refl _) _
  have h0 : Has wa (w.heap.size) 27 (tpC t a) := by rw [← hwa]; exact (Has.made _ _ _)
  have HWA := Lib.hid hwa; have HBWA := Lib.hid hbwa
  have H := Lib.hid (rlight_any13 t a wa (ht.under hbwa))
  have H0 := Lib.hid h0
  clear hwa hbwa h0 ht
  generalize lightT t = q at *
  cases q with
  | false =>
    rw [Bool.false_and]
    go_enter Tryz.func6, Tryz.ntmps6
    go_upto_region 1 with fail
    rw [HWA.out]
    clear HWA
    go_wp2_with (with_reducible refine wpList_load_row (o := ⟨some 6, _, _, _, _, _⟩) rfl 27 _ rfl (w.heap.size) rfl 27 (tpC t a) (0, 0) _ (H0.out).raw11 Tryz.underlying27 rfl (by kernel_rfl) ?_)
    refine H.out.mono ?_
    rintro e_ w1 ⟨rfl, hb1⟩
    have HB1 := Lib.hid (HBWA.out.trans (hb1.mono HBWA.out.size))
    clear hb1 H H0 HBWA
    go_wp2
    go_ret
    exact ⟨by first | rfl | (simp; done) | (simp; omega), HB1.out⟩
  | true =>
    rw [Bool.true_and]
    by_cases z : n ≤ 100
    · have z1 : (n : Int) ≤ 100 := by omega
      rw [decide_eq_true z]
      go_enter Tryz.func6, Tryz.ntmps6
      go_upto_region 1 with fail
      rw [HWA.out]
      clear HWA
      go_wp2_with (with_reducible refine wpList_load_row (o := ⟨some 6, _, _, _, _, _⟩) rfl 27 _ rfl (w.heap.size) rfl 27 (tpC t a) (0, 0) _ (H0.out).raw11 Tryz.underlying27 rfl (by kernel_rfl) ?_)
      refine H.out.mono ?_
      rintro e_ w1 ⟨rfl, hb1⟩
      have HB1 := Lib.hid (HBWA.out.trans (hb1.mono HBWA.out.size))
      clear hb1 H H0 HBWA
      go_wp2
      go_ret
      exact ⟨by first | rfl | (simp; done) | (simp; omega), HB1.out⟩
    · have z1 : ¬ (n : Int) ≤ 100 := by omega
      rw [decide_eq_false z]
      go_enter Tryz.func6, Tryz.ntmps6
      go_upto_region 1 with fail
      rw [HWA.out]
      clear HWA
      go_wp2_with (with_reducible refine wpList_load_row (o := ⟨some 6, _, _, _, _, _⟩) rfl 27 _ rfl (w.heap.size) rfl 27 (tpC t a) (0, 0) _ (H0.out).raw11 Tryz.underlying27 rfl (by kernel_rfl) ?_)
      refine H.out.mono ?_
      rintro e_ w1 ⟨rfl, hb1⟩
      have HB1 := Lib.hid (HBWA.out.trans (hb1.mono HBWA.out.size))
      clear hb1 H H0 HBWA
      go_wp2
      go_ret
      exact ⟨by first | rfl | (simp; done) | (simp; omega), HB1.out⟩

theorem SlO.op16 {w : World} {A : Option Addr} {n c : Nat} {l : List Op4} (h : SlO opC16 4 w A n c l) {j : Nat} {x : Op4} (hx : l[j]? = some x) :
    ∃ b off, A = some ⟨b, off, none⟩ ∧ ∀ W, Below w.heap.size w W → W.cell? ⟨b, off + j * 4, none⟩ = some (.bool x.free) ∧ W.cell? ⟨b, off + j * 4 + 1, none⟩ = some (.int .i64 x.route) ∧ W.cell? ⟨b, off + j * 4 + 2, none⟩ = some (.int .i64 x.train) ∧ W.cell? ⟨b, off + j * 4 + 3, none⟩ = some (.int .i64 x.no) := by
  obtain ⟨b, off, rfl, _⟩ := h.at_ (fun _ => rfl) (by decide) hx
  refine ⟨b, off, rfl, fun W hW => ?_⟩
  obtain ⟨b', o', e, h1⟩ := (h.under hW).at_ (fun _ => rfl) (by decide) hx
  injection e with e
  injection e with e1 e2 _
  subst e1 e2
  exact ⟨h1 0 _ rfl, h1 1 _ rfl, h1 2 _ rfl, h1 3 _ rfl⟩
theorem play_step16 {t : Tp3} {x : It3} {l : List Op4} {i : Nat} {o : Op4} (h : l[i]? = some o) : playI t x (l.take (i + 1)) = stepI t (playI t x (l.take i)) o := by
  rw [List.take_add_one, h]
  exact playI_snoc _ _ _ _

end Go.Proofs.YteioefgckigbcaaGreat
