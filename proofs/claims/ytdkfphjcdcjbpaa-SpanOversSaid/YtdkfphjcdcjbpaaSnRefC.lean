/-
  linesideref15, by contract: Norm, Union, Minus, Both, Within, Meets, Total.
-/
import Derived.Test.YtdkfphjcdcjbpaaSnRefB

import Derived.BigQuiet

import Derived.IntWalk

namespace Go.Proofs.Ytdkfphjcdcjbpaa

open Go.RowKit

open Go.Great

theorem empty_len {α : Type} (l : List α) : l.isEmpty = decide ((l.length : Int) = 0) := by
  cases l with
  | nil => rfl
  | cons x r =>
    rw [decide_eq_false (by rw [List.length_cons]; omega)]
    rfl
theorem some_len {α : Type} (l : List α) : (!l.isEmpty) = decide ((0 : Int) < (l.length : Int)) := by
  cases l with
  | nil => rfl
  | cons x r =>
    rw [decide_eq_true (by rw [List.length_cons]; omega)]
    rfl
theorem sum_take15 {l : List Sn3} {i : Nat} {x : Sn3} (hx : l[i]? = some x) : sumN (l.take (i + 1)) = sumN (l.take i) + (x.hi - x.lo) := by
  rw [List.take_add_one, hx, sumN_app]
  show _ + (x.hi - x.lo + 0) = _
  rw [Int.add_zero]

set_option maxRecDepth 100000 in
set_option maxHeartbeats 8000000 in
theorem rsnorm_any (l : List Sn3) (A : Option Addr) (n c : Nat) (w : World) (hs : SlO snC 3 w A n c l) (hn : n ≤ 100) :
    Calls Try.prog 12 #[.slice A n c] w fun r w' => ∃ X x, r = .returned (.slice X (normL l).length x) ∧ SlO snC 3 w' X (normL l).length x (normL l) ∧ (normL l).length ≤ x ∧ Below w.heap.size w w' := by
  have HF := Lib.hid (rsform_any l [] ⟨true, false, false⟩ A none n c 0 0 w hs (SlO.nil _ _ _) hn (by omega))
  rw [show formL l [] ⟨true, false, false⟩ = normL l from rfl] at HF
  clear hs
  go_enter Try.func12, Try.ntmps12
  go_wp2_with fail
  refine HF.out.mono ?_
  rintro r w1 ⟨X, x, rfl, h1, h2, h3⟩
  have H1 := Lib.hid h1; have H2 := Lib.hid h2; have H3 := Lib.hid h3
  clear h1 h2 h3 HF
  go_wp2
  go_ret
  exact ⟨X, x, rfl, H1.out, H2.out, H3.out⟩

set_option maxRecDepth 100000 in
set_option maxHeartbeats 8000000 in
theorem rsunion_any (a b : List Sn3) (A B : Option Addr) (n c m d : Nat) (w : World) (ha : SlO snC 3 w A n c a) (hb : SlO snC 3 w B m d b) (hn : n ≤ 100) (hm : m ≤ 100) :
    Calls Try.prog 14 #[.slice A n c, .slice B m d] w fun r w' => ∃ X x, r = .returned (.slice X (unionL a b).length x) ∧ SlO snC 3 w' X (unionL a b).length x (unionL a b) ∧ (unionL a b).length ≤ x ∧ Below w.heap.size w w' := by
  have HF := Lib.hid (rsform_any a b ⟨true, true, true⟩ A B n c m d w ha hb hn hm)
  rw [show formL a b ⟨true, true, true⟩ = unionL a b from rfl] at HF
  clear ha hb
  go_enter Try.func14, Try.ntmps14
  go_wp2_with fail
  refine HF.out.mono ?_
  rintro r w1 ⟨X, x, rfl, h1, h2, h3⟩
  have H1 := Lib.hid h1; have H2 := Lib.hid h2; have H3 := Lib.hid h3
  clear h1 h2 h3 HF
  go_wp2
  go_ret
  exact ⟨X, x, rfl, H1.out, H2.out, H3.out⟩

set_option maxRecDepth 100000 in
set_option maxHeartbeats 8000000 in
theorem rsminus_any (a b : List Sn3) (A B : Option Addr) (n c m d : Nat) (w : World) (ha : SlO snC 3 w A n c a) (hb : SlO snC 3 w B m d b) (hn : n ≤ 100) (hm : m ≤ 100) :
    Calls Try.prog 16 #[.slice A n c, .slice B m d] w fun r w' => ∃ X x, r = .returned (.slice X (minusL a b).length x) ∧ SlO snC 3 w' X (minusL a b).length x (minusL a b) ∧ (minusL a b).length ≤ x ∧ Below w.heap.size w w' := by
  have HF := Lib.hid (rsform_any a b ⟨true, false, false⟩ A B n c m d w ha hb hn hm)
  rw [show formL a b ⟨true, false, false⟩ = minusL a b from rfl] at HF
  clear ha hb
  go_enter Try.func16, Try.ntmps16
  go_wp2_with fail
  refine HF.out.mono ?_
  rintro r w1 ⟨X, x, rfl, h1, h2, h3⟩
  have H1 := Lib.hid h1; have H2 := Lib.hid h2; have H3 := Lib.hid h3
  clear h1 h2 h3 HF
  go_wp2
  go_ret
  exact ⟨X, x, rfl, H1.out, H2.out, H3.out⟩

set_option maxRecDepth 100000 in
set_option maxHeartbeats 8000000 in
theorem rsboth_any (a b : List Sn3) (A B : Option Addr) (n c m d : Nat) (w : World) (ha : SlO snC 3 w A n c a) (hb : SlO snC 3 w B m d b) (hn : n ≤ 100) (hm : m ≤ 100) :
    Calls Try.prog 18 #[.slice A n c, .slice B m d] w fun r w' => ∃ X x, r = .returned (.slice X (bothL a b).length x) ∧ SlO snC 3 w' X (bothL a b).length x (bothL a b) ∧ (bothL a b).length ≤ x ∧ Below w.heap.size w w' := by
  have HF := Lib.hid (rsform_any a b ⟨false, false, true⟩ A B n c m d w ha hb hn hm)
  rw [show formL a b ⟨false, false, true⟩ = bothL a b from rfl] at HF
  clear ha hb
  go_enter Try.func18, Try.ntmps18
  go_wp2_with fail
  refine HF.out.mono ?_
  rintro r w1 ⟨X, x, rfl, h1, h2, h3⟩
  have H1 := Lib.hid h1; have H2 := Lib.hid h2; have H3 := Lib.hid h3
  clear h1 h2 h3 HF
  go_wp2
  go_ret
  exact ⟨X, x, rfl, H1.out, H2.out, H3.out⟩

set_option maxRecDepth 100000 in
set_option maxHeartbeats 8000000 in
theorem rswithin_any (a b : List Sn3) (A B : Option Addr) (n c m d : Nat) (w : World) (ha : SlO snC 3 w A n c a) (hb : SlO snC 3 w B m d b) (hn : n ≤ 100) (hm : m ≤ 100) :
    Calls Try.prog 20 #[.slice A n c, .slice B m d] w fun r w' => r = .returned (.bool (withinL a b)) ∧ Below w.heap.size w w' := by
  have HF := Lib.hid (rsminus_any a b A B n c m d w ha hb hn hm)
  rw [show withinL a b = _ from empty_len (minusL a b)]
  obtain ⟨k, hk⟩ : ∃ k, (minusL a b).length = k := ⟨_, rfl⟩
  rw [hk] at HF ⊢
  clear ha hb hk
  go_enter Try.func20, Try.ntmps20
  go_wp2_with fail
  refine HF.out.mono ?_
  rintro r w1 ⟨X, x, rfl, -, -, h3⟩
  have H3 := Lib.hid h3
  clear h3 HF
  go_wp2
  go_ret
  exact ⟨by first | rfl | simp, H3.out⟩

set_option maxRecDepth 100000 in
set_option maxHeartbeats 8000000 in
theorem rsmeets_any (a b : List Sn3) (A B : Option Addr) (n c m d : Nat) (w : World) (ha : SlO snC 3 w A n c a) (hb : SlO snC 3 w B m d b) (hn : n ≤ 100) (hm : m ≤ 100) :
    Calls Try.prog 22 #[.slice A n c, .slice B m d] w fun r w' => r = .returned (.bool (meetsL a b)) ∧ Below w.heap.size w w' := by
  have HF := Lib.hid (rsboth_any a b A B n c m d w ha hb hn hm)
  rw [show meetsL a b = _ from some_len (bothL a b)]
  obtain ⟨k, hk⟩ : ∃ k, (bothL a b).length = k := ⟨_, rfl⟩
  rw [hk] at HF ⊢
  clear ha hb hk
  go_enter Try.func22, Try.ntmps22
  go_wp2_with fail
  refine HF.out.mono ?_
  rintro r w1 ⟨X, x, rfl, -, -, h3⟩
  have H3 := Lib.hid h3
  clear h3 HF
  go_wp2
  go_ret
  exact ⟨by first | rfl | simp, H3.out⟩

set_option maxRecDepth 100000 in
set_option maxHeartbeats 8000000 in
theorem rstotal_any (l : List Sn3) (A : Option Addr) (n c : Nat) (w : World) (hs : SlO snC 3 w A n c l) (hn : n ≤ 100) :
    Calls Try.prog 24 #[.slice A n c] w fun r w' => r = .returned (.int .i64 (totalL l)) ∧ Below w.heap.size w w' := by
  have HF := Lib.hid (rsnorm_any l A n c w hs hn)
  obtain ⟨R, hR⟩ : ∃ R, totalL l = R := ⟨_, rfl⟩
  have HR := Lib.hid hR
  rw [hR]
  have HOK := Lib.hid (norm_normal l).1
  have HFW := Lib.hid (show (normL l).length ≤ 200 from by have h1 := form_few l [] ⟨true, false, false⟩; have h2 : ([] : List Sn3).length = 0 := rfl; have h3 := hs.1; unfold normL; omega)
  obtain ⟨m, hm⟩ : ∃ m, normL l = m := ⟨_, rfl⟩
  have HRM := Lib.hid (show sumN m = R from by rw [← hm]; exact hR)
  rw [hm] at HF HOK HFW
  clear hs hR hm HR
  go_enter Try.func24, Try.ntmps24
  go_wp2_with fail
  refine HF.out.mono ?_
  rintro r w1 ⟨X, x, rfl, h1, -, h3⟩
  have H3 := Lib.hid h3
  have HM := Lib.hid (fun W (hW : Below w1.heap.size w1 W) => h1.under hW)
  obtain ⟨k, hk⟩ : ∃ k, m.length = k := ⟨_, rfl⟩
  have HL := Lib.hid hk
  rw [hk] at HFW
  have hkb : k ≤ 200 := HFW.out
  simp only [hk] at HM ⊢
  clear h1 h3 HF hk
  go_wp2
  go_loopg [4, 5] k (fun kk v4 v5 wl => ∃ i q : Nat, i ≤ k ∧ k - i ≤ kk ∧ v5 = .int .i64 i ∧ v4 = .int .i64 (sumN (m.take i)) ∧ wl = w1.drewN q)
  case atStart => exact ⟨0, 0, by omega, by omega, rfl, rfl, rfl⟩
  case round =>
    obtain ⟨i, q, hi, hik, rfl, rfl, rfl⟩ := hrel
    by_cases hlt : i < k
    rotate_left
    · obtain rfl : i = k := by omega
      have x1 : ¬ (i : Int) < i := by omega
      have HE : Hid (sumN (m.take i) = R) := Lib.hid (by rw [List.take_of_length_le (Nat.le_of_eq HL.out)]; exact HRM.out)
      clear hlt hi hik
      go_wp2
      go_ret
      exact ⟨by rw [HE.out]; rfl, below_draws H3.out _⟩
    obtain ⟨y, hy⟩ : ∃ y, m[i]? = some y := ⟨_, List.getElem?_eq_getElem (by rw [HL.out]; omega)⟩
    obtain ⟨bk, off, rfl, -, d1, d2⟩ := (HM.out w1 (Below.refl _ _)).span hy
    have HY := Lib.hid hy
    have HYB := Lib.hid (HOK.out y (List.mem_of_getElem? hy))
    obtain ⟨sv, hsv⟩ : ∃ s, sumN (m.take i) = s := ⟨_, rfl⟩
    have HSV := Lib.hid hsv
    have hsb : 0 ≤ sv ∧ sv ≤ 200000000 := by have h_ := sum_bound (l := m.take i) (fun s hs => HOK.out s (List.mem_of_mem_take hs)); rw [hsv, List.length_take] at h_; omega
    simp only [hsv]
    have hyb : 0 ≤ y.lo ∧ y.lo < y.hi ∧ y.hi ≤ 1000000 := HYB.out.2
    have hw1 : IntKind.i64.wrap (sv + y.hi) = sv + y.hi := by rw [IntKind.wrap_i64]; omega
    have hw2 : IntKind.i64.wrap (sv + y.hi - y.lo) = sv + y.hi - y.lo := by rw [IntKind.wrap_i64]; omega
    have x1 : (i : Int) < k := by omega
    have x2 : (0 : Int) ≤ i := by omega
    clear hy hsv hsb hyb
    go_upto_region 6 with fail
    go_quiet (fail)
    clear hw1 hw2 d1 d2
    go_wp2
    go_roundg (gk - 1)
    case measure => omega
    case rel => exact ⟨i + 1, _, by omega, by omega, by go_num, by rw [sum_take15 HY.out, HSV.out, show sv + (y.hi - y.lo) = sv + y.hi - y.lo by omega], by first | rfl | rw [World.drewN_drewN]⟩

end Go.Proofs.Ytdkfphjcdcjbpaa
