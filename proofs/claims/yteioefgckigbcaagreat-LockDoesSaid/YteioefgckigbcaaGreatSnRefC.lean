/-
  linesideref15, by contract: Norm, Union, Minus, Both, Within, Meets, Total.
-/
import Derived.Test.YteioefgckigbcaaGreatSnRefB

import Derived.BigQuiet

import Derived.IntWalk

namespace Go.Proofs.YteioefgckigbcaaGreat

open Go.RowKit

open Go.Great

theorem empty_len {α : Type} (l : List α) : l.isEmpty = decide ((l.length : Int) = 0) := by
  cases l with
  | nil => rfl
  | cons x r =>
    rw [decide_eq_false (by rw [List.length_cons]; omega)]
    rfl
theorem some_len {α : Type} (l : List α) : (!l.isEmpty) = decide ((0 : Int) < (l.length : Int)) := by
  cases l with
  | nil => rfl
  | cons x r =>
    rw [decide_eq_true (by rw [List.length_cons]; omega)]
    rfl
theorem sum_take15 {l : List Sn3} {i : Nat} {x : Sn3} (hx : l[i]? = some x) : sumN (l.take (i + 1)) = sumN (l.take i) + (x.hi - x.lo) := by
  rw [List.take_add_one, hx, sumN_app]
  show _ + (x.hi - x.lo + 0) = _
  rw [Int.add_zero]

set_option maxRecDepth 100000 in
set_option maxHeartbeats 8000000 in
theorem rsnorm_any (l : List Sn3) (A : Option Addr) (n c : Nat) (w : World) (hs : SlO snC 3 w A n c l) (hn : n ≤ 2000) :
    Calls Tryz.prog 43 #[.slice A n c] w fun r w' => ∃ X x, r = .returned (.slice X (normL l).length x) ∧ SlO snC 3 w' X (normL l).length x (normL l) ∧ (normL l).length ≤ x ∧ Below w.heap.size w w' := by
  have HF := Lib.hid (rsform_any l [] ⟨true, false, false⟩ A none n c 0 0 w hs (SlO.nil _ _ _) hn (by omega))
  rw [show formL l [] ⟨true, false, false⟩ = normL l from rfl] at HF
  clear hs
  go_enter Tryz.func43, Tryz.ntmps43
  go_wp2_with fail
  refine HF.out.mono ?_
  rintro r w1 ⟨X, x, rfl, h1, h2, h3⟩
  have H1 := Lib.hid h1; have H2 := Lib.hid h2; have H3 := Lib.hid h3
  clear h1 h2 h3 HF
  go_wp2
  go_ret
  exact ⟨X, x, rfl, H1.out, H2.out, H3.out⟩

set_option maxRecDepth 100000 in
set_option maxHeartbeats 8000000 in
theorem rsboth_any (a b : List Sn3) (A B : Option Addr) (n c m d : Nat) (w : World) (ha : SlO snC 3 w A n c a) (hb : SlO snC 3 w B m d b) (hn : n ≤ 2000) (hm : m ≤ 2000) :
    Calls Tryz.prog 77 #[.slice A n c, .slice B m d] w fun r w' => ∃ X x, r = .returned (.slice X (bothL a b).length x) ∧ SlO snC 3 w' X (bothL a b).length x (bothL a b) ∧ (bothL a b).length ≤ x ∧ Below w.heap.size w w' := by
  have HF := Lib.hid (rsform_any a b ⟨false, false, true⟩ A B n c m d w ha hb hn hm)
  rw [show formL a b ⟨false, false, true⟩ = bothL a b from rfl] at HF
  clear ha hb
  go_enter Tryz.func77, Tryz.ntmps77
  go_wp2_with fail
  refine HF.out.mono ?_
  rintro r w1 ⟨X, x, rfl, h1, h2, h3⟩
  have H1 := Lib.hid h1; have H2 := Lib.hid h2; have H3 := Lib.hid h3
  clear h1 h2 h3 HF
  go_wp2
  go_ret
  exact ⟨X, x, rfl, H1.out, H2.out, H3.out⟩

set_option maxRecDepth 100000 in
set_option maxHeartbeats 8000000 in
theorem rsmeets_any (a b : List Sn3) (A B : Option Addr) (n c m d : Nat) (w : World) (ha : SlO snC 3 w A n c a) (hb : SlO snC 3 w B m d b) (hn : n ≤ 2000) (hm : m ≤ 2000) :
    Calls Tryz.prog 47 #[.slice A n c, .slice B m d] w fun r w' => r = .returned (.bool (meetsL a b)) ∧ Below w.heap.size w w' := by
  have HF := Lib.hid (rsboth_any a b A B n c m d w ha hb hn hm)
  rw [show meetsL a b = _ from some_len (bothL a b)]
  obtain ⟨k, hk⟩ : ∃ k, (bothL a b).length = k := ⟨_, rfl⟩
  rw [hk] at HF ⊢
  clear ha hb hk
  go_enter Tryz.func47, Tryz.ntmps47
  go_wp2_with fail
  refine HF.out.mono ?_
  rintro r w1 ⟨X, x, rfl, -, -, h3⟩
  have H3 := Lib.hid h3
  clear h3 HF
  go_wp2
  go_ret
  exact ⟨by first | rfl | simp, H3.out⟩

end Go.Proofs.YteioefgckigbcaaGreat
