/-
  package packet's layout: the table of each packet's variables.
-/
import Derived.Test.YtamnhnleipnhdaaDoorLayOut

namespace Go.Proofs.YtamnhnleipnhdaaDoor

open Go.RowKit

set_option maxRecDepth 100000 in
set_option maxHeartbeats 4000000 in
theorem layout_3 (lo : Nat) (w0 : World) (hlo : lo ≤ w0.heap.size) :
    Calls Tryd.prog 84 #[.int .i64 3] w0 fun e w' => ∃ A' n' c' l, e = .returned (.slice A' n' c') ∧ Parts lo w'.heap.size w' A' n' c' l ∧ ndPts l = astOf 3 ∧ Below w0.heap.size w0 w' := by
  have HB0 := Lib.hid (Below.refl w0.heap.size w0)
  go_enter Tryd.func84, Tryd.ntmps84
  have HC : Hid (Calls Tryd.prog 95 #[.slice (some ⟨w0.heap.size, 0, none⟩) 4 4] (w0.alloc (.cells #[.int .i64 6, .int .i64 7, .int .i64 8, .int .i64 84] 3)) fun e w' => ∃ A' c', e = .returned (.slice A' 4 c') ∧ Parts lo w'.heap.size w' A' 4 c' (plainPts [6, 7, 8, 84]) ∧ Below w0.heap.size w0 w') := plain_lit lo [6, 7, 8, 84] w0 (by decide) (Nat.le_trans hlo HB0.out.size)
  go_wp2_with fail
  refine HC.out.mono ?_
  rintro e w1 ⟨A0, c0, rfl, hp, hb⟩
  have HB1 := Lib.hid (HB0.out.trans (hb.mono HB0.out.size))
  have HP0_1 := Lib.hid hp
  clear hp hb HC HB0
  have HC : Hid (Calls Tryd.prog 95 #[.slice (some ⟨w1.heap.size, 0, none⟩) 1 1] (w1.alloc (.cells #[.int .i64 10] 3)) fun e w' => ∃ A' c', e = .returned (.slice A' 1 c') ∧ Parts lo w'.heap.size w' A' 1 c' (plainPts [10]) ∧ Below w1.heap.size w1 w') := plain_lit lo [10] w1 (by decide) (Nat.le_trans hlo HB1.out.size)
  go_wp2_with fail
  refine HC.out.mono ?_
  rintro e w2 ⟨A1, c1, rfl, hp, hb⟩
  have HB2 := Lib.hid (HB1.out.trans (hb.mono HB1.out.size))
  have HP0_2 := Lib.hid (HP0_1.out.under hb)
  have HP1_2 := Lib.hid hp
  clear hp hb HC HB1 HP0_1
  have HC : Hid (Calls Tryd.prog 96 #[.slice (some ⟨w2.heap.size, 0, none⟩) 1 1] (w2.alloc (.cells #[.slice A1 1 c1] 123)) fun e w' => ∃ A' c', e = .returned (.slice A' 1 c') ∧ Parts lo w'.heap.size w' A' 1 c' [.mk 27 0 (ptsOf [(A1, 1, c1, (plainPts [10]))])] ∧ Below w2.heap.size w2 w') := iter_lit lo [(A1, 1, c1, (plainPts [10]))] w2 (by simp) (fun x hx => by
    simp only [List.mem_cons, List.not_mem_nil, or_false] at hx
    subst hx
    · exact ⟨HP1_2.out, (by show (1 : Nat) ≤ 100; omega)⟩
    ) (Nat.le_trans hlo HB2.out.size)
  go_wp2_with fail
  refine HC.out.mono ?_
  rintro e w3 ⟨A2, c2, rfl, hp, hb⟩
  have HB3 := Lib.hid (HB2.out.trans (hb.mono HB2.out.size))
  have HP0_3 := Lib.hid (HP0_2.out.under hb)
  have HP2_3 := Lib.hid hp
  clear hp hb HC HB2 HP0_2 HP1_2
  have HC : Hid (Calls Tryd.prog 95 #[.slice (some ⟨w3.heap.size, 0, none⟩) 3 3] (w3.alloc (.cells #[.int .i64 85, .int .i64 87, .int .i64 86] 3)) fun e w' => ∃ A' c', e = .returned (.slice A' 3 c') ∧ Parts lo w'.heap.size w' A' 3 c' (plainPts [85, 87, 86]) ∧ Below w3.heap.size w3 w') := plain_lit lo [85, 87, 86] w3 (by decide) (Nat.le_trans hlo HB3.out.size)
  go_wp2_with fail
  refine HC.out.mono ?_
  rintro e w4 ⟨A3, c3, rfl, hp, hb⟩
  have HB4 := Lib.hid (HB3.out.trans (hb.mono HB3.out.size))
  have HP0_4 := Lib.hid (HP0_3.out.under hb)
  have HP2_4 := Lib.hid (HP2_3.out.under hb)
  have HP3_4 := Lib.hid hp
  clear hp hb HC HB3 HP0_3 HP2_3
  have HC : Hid (Calls Tryd.prog 94 #[.slice (some ⟨w4.heap.size, 0, none⟩) 3 3] (w4.alloc (.cells #[.slice A0 4 c0, .slice A2 1 c2, .slice A3 3 c3] 123)) fun e w' => ∃ A' n' c', e = .returned (.slice A' n' c') ∧ Parts lo w'.heap.size w' A' n' c' (ptsOf [(A0, 4, c0, (plainPts [6, 7, 8, 84])), (A2, 1, c2, [.mk 27 0 (ptsOf [(A1, 1, c1, (plainPts [10]))])]), (A3, 3, c3, (plainPts [85, 87, 86]))]) ∧ Below w4.heap.size w4 w') := cat_lit lo [(A0, 4, c0, (plainPts [6, 7, 8, 84])), (A2, 1, c2, [.mk 27 0 (ptsOf [(A1, 1, c1, (plainPts [10]))])]), (A3, 3, c3, (plainPts [85, 87, 86]))] w4 (by simp) (fun x hx => by
    simp only [List.mem_cons, List.not_mem_nil, or_false] at hx
    rcases hx with rfl | rfl | rfl
    · exact ⟨HP0_4.out, (by show (4 : Nat) ≤ 100; omega)⟩
    · exact ⟨HP2_4.out, (by show (1 : Nat) ≤ 100; omega)⟩
    · exact ⟨HP3_4.out, (by show (3 : Nat) ≤ 100; omega)⟩
    ) (Nat.le_trans hlo HB4.out.size)
  go_wp2_with fail
  refine HC.out.mono ?_
  rintro e w5 ⟨A4, n4, c4, rfl, hp, hb⟩
  have HB5 := Lib.hid (HB4.out.trans (hb.mono HB4.out.size))
  have HP4_5 := Lib.hid hp
  clear hp hb HC HB4 HP0_4 HP2_4 HP3_4
  go_wp2
  go_ret
  exact ⟨A4, n4, c4, _, rfl, HP4_5.out, by kernel_rfl, HB5.out⟩
set_option maxRecDepth 100000 in
set_option maxHeartbeats 4000000 in
theorem layout_5 (lo : Nat) (w0 : World) (hlo : lo ≤ w0.heap.size) :
    Calls Tryd.prog 84 #[.int .i64 5] w0 fun e w' => ∃ A' n' c' l, e = .returned (.slice A' n' c') ∧ Parts lo w'.heap.size w' A' n' c' l ∧ ndPts l = astOf 5 ∧ Below w0.heap.size w0 w' := by
  have HB0 := Lib.hid (Below.refl w0.heap.size w0)
  go_enter Tryd.func84, Tryd.ntmps84
  have HC : Hid (Calls Tryd.prog 95 #[.slice (some ⟨w0.heap.size, 0, none⟩) 1 1] (w0.alloc (.cells #[.int .i64 44] 3)) fun e w' => ∃ A' c', e = .returned (.slice A' 1 c') ∧ Parts lo w'.heap.size w' A' 1 c' (plainPts [44]) ∧ Below w0.heap.size w0 w') := plain_lit lo [44] w0 (by decide) (Nat.le_trans hlo HB0.out.size)
  go_wp2_with fail
  refine HC.out.mono ?_
  rintro e w1 ⟨A0, c0, rfl, hp, hb⟩
  have HB1 := Lib.hid (HB0.out.trans (hb.mono HB0.out.size))
  have HP0_1 := Lib.hid hp
  clear hp hb HC HB0
  have HC : Hid (Calls Tryd.prog 98 #[.int .i64 12, .slice (some ⟨w1.heap.size, 0, none⟩) 1 1] (w1.alloc (.cells #[.int .i64 10] 3)) fun e w' => ∃ A' c', e = .returned (.slice A' 1 c') ∧ Parts lo w'.heap.size w' A' 1 c' [.mk 12 1 (plainPts [10])] ∧ Below w1.heap.size w1 w') := ifOne_lit lo 12 [10] w1 (by decide) (Nat.le_trans hlo HB1.out.size)
  go_wp2_with fail
  refine HC.out.mono ?_
  rintro e w2 ⟨A1, c1, rfl, hp, hb⟩
  have HB2 := Lib.hid (HB1.out.trans (hb.mono HB1.out.size))
  have HP0_2 := Lib.hid (HP0_1.out.under hb)
  have HP1_2 := Lib.hid hp
  clear hp hb HC HB1 HP0_1
  have HC : Hid (Calls Tryd.prog 95 #[.slice (some ⟨w2.heap.size, 0, none⟩) 4 4] (w2.alloc (.cells #[.int .i64 11, .int .i64 45, .int .i64 46, .int .i64 47] 3)) fun e w' => ∃ A' c', e = .returned (.slice A' 4 c') ∧ Parts lo w'.heap.size w' A' 4 c' (plainPts [11, 45, 46, 47]) ∧ Below w2.heap.size w2 w') := plain_lit lo [11, 45, 46, 47] w2 (by decide) (Nat.le_trans hlo HB2.out.size)
  go_wp2_with fail
  refine HC.out.mono ?_
  rintro e w3 ⟨A2, c2, rfl, hp, hb⟩
  have HB3 := Lib.hid (HB2.out.trans (hb.mono HB2.out.size))
  have HP0_3 := Lib.hid (HP0_2.out.under hb)
  have HP1_3 := Lib.hid (HP1_2.out.under hb)
  have HP2_3 := Lib.hid hp
  clear hp hb HC HB2 HP0_2 HP1_2
  have HC : Hid (Calls Tryd.prog 97 #[.slice (some ⟨w3.heap.size, 0, none⟩) 3 3] (w3.alloc (.cells #[.slice A0 1 c0, .slice A1 1 c1, .slice A2 4 c2] 123)) fun e w' => ∃ A' n' c', e = .returned (.slice A' n' c') ∧ Parts lo w'.heap.size w' A' n' c' (omPts (ptsOf [(A0, 1, c0, (plainPts [44])), (A1, 1, c1, [.mk 12 1 (plainPts [10])]), (A2, 4, c2, (plainPts [11, 45, 46, 47]))])) ∧ Below w3.heap.size w3 w') := oneOrMore_lit lo [(A0, 1, c0, (plainPts [44])), (A1, 1, c1, [.mk 12 1 (plainPts [10])]), (A2, 4, c2, (plainPts [11, 45, 46, 47]))] w3 (by simp) (fun x hx => by
    simp only [List.mem_cons, List.not_mem_nil, or_false] at hx
    rcases hx with rfl | rfl | rfl
    · exact ⟨HP0_3.out, (by show (1 : Nat) ≤ 100; omega)⟩
    · exact ⟨HP1_3.out, (by show (1 : Nat) ≤ 100; omega)⟩
    · exact ⟨HP2_3.out, (by show (4 : Nat) ≤ 100; omega)⟩
    ) (Nat.le_trans hlo HB3.out.size) (by simp [ptsOf, plainPts])
  go_wp2_with fail
  refine HC.out.mono ?_
  rintro e w4 ⟨A3, n3, c3, rfl, hp, hb⟩
  have HB4 := Lib.hid (HB3.out.trans (hb.mono HB3.out.size))
  have HP3_4 := Lib.hid hp
  clear hp hb HC HB3 HP0_3 HP1_3 HP2_3
  go_wp2
  go_ret
  exact ⟨A3, n3, c3, _, rfl, HP3_4.out, by kernel_rfl, HB4.out⟩
set_option maxRecDepth 100000 in
set_option maxHeartbeats 4000000 in
theorem layout_11 (lo : Nat) (w0 : World) (hlo : lo ≤ w0.heap.size) :
    Calls Tryd.prog 84 #[.int .i64 11] w0 fun e w' => ∃ A' n' c' l, e = .returned (.slice A' n' c') ∧ Parts lo w'.heap.size w' A' n' c' l ∧ ndPts l = astOf 11 ∧ Below w0.heap.size w0 w' := by
  have HB0 := Lib.hid (Below.refl w0.heap.size w0)
  go_enter Tryd.func84, Tryd.ntmps84
  have HC : Hid (Calls Tryd.prog 95 #[.slice (some ⟨w0.heap.size, 0, none⟩) 8 8] (w0.alloc (.cells #[.int .i64 7, .int .i64 75, .int .i64 76, .int .i64 77, .int .i64 78, .int .i64 79, .int .i64 80, .int .i64 81] 3)) fun e w' => ∃ A' c', e = .returned (.slice A' 8 c') ∧ Parts lo w'.heap.size w' A' 8 c' (plainPts [7, 75, 76, 77, 78, 79, 80, 81]) ∧ Below w0.heap.size w0 w') := plain_lit lo [7, 75, 76, 77, 78, 79, 80, 81] w0 (by decide) (Nat.le_trans hlo HB0.out.size)
  go_wp2_with fail
  refine HC.out.mono ?_
  rintro e w1 ⟨A0, c0, rfl, hp, hb⟩
  have HB1 := Lib.hid (HB0.out.trans (hb.mono HB0.out.size))
  have HP0_1 := Lib.hid hp
  clear hp hb HC HB0
  have HC : Hid (Calls Tryd.prog 95 #[.slice (some ⟨w1.heap.size, 0, none⟩) 1 1] (w1.alloc (.cells #[.int .i64 82] 3)) fun e w' => ∃ A' c', e = .returned (.slice A' 1 c') ∧ Parts lo w'.heap.size w' A' 1 c' (plainPts [82]) ∧ Below w1.heap.size w1 w') := plain_lit lo [82] w1 (by decide) (Nat.le_trans hlo HB1.out.size)
  go_wp2_with fail
  refine HC.out.mono ?_
  rintro e w2 ⟨A1, c1, rfl, hp, hb⟩
  have HB2 := Lib.hid (HB1.out.trans (hb.mono HB1.out.size))
  have HP0_2 := Lib.hid (HP0_1.out.under hb)
  have HP1_2 := Lib.hid hp
  clear hp hb HC HB1 HP0_1
  have HC : Hid (Calls Tryd.prog 96 #[.slice (some ⟨w2.heap.size, 0, none⟩) 1 1] (w2.alloc (.cells #[.slice A1 1 c1] 123)) fun e w' => ∃ A' c', e = .returned (.slice A' 1 c') ∧ Parts lo w'.heap.size w' A' 1 c' [.mk 27 0 (ptsOf [(A1, 1, c1, (plainPts [82]))])] ∧ Below w2.heap.size w2 w') := iter_lit lo [(A1, 1, c1, (plainPts [82]))] w2 (by simp) (fun x hx => by
    simp only [List.mem_cons, List.not_mem_nil, or_false] at hx
    subst hx
    · exact ⟨HP1_2.out, (by show (1 : Nat) ≤ 100; omega)⟩
    ) (Nat.le_trans hlo HB2.out.size)
  go_wp2_with fail
  refine HC.out.mono ?_
  rintro e w3 ⟨A2, c2, rfl, hp, hb⟩
  have HB3 := Lib.hid (HB2.out.trans (hb.mono HB2.out.size))
  have HP0_3 := Lib.hid (HP0_2.out.under hb)
  have HP2_3 := Lib.hid hp
  clear hp hb HC HB2 HP0_2 HP1_2
  have HC : Hid (Calls Tryd.prog 95 #[.slice (some ⟨w3.heap.size, 0, none⟩) 1 1] (w3.alloc (.cells #[.int .i64 83] 3)) fun e w' => ∃ A' c', e = .returned (.slice A' 1 c') ∧ Parts lo w'.heap.size w' A' 1 c' (plainPts [83]) ∧ Below w3.heap.size w3 w') := plain_lit lo [83] w3 (by decide) (Nat.le_trans hlo HB3.out.size)
  go_wp2_with fail
  refine HC.out.mono ?_
  rintro e w4 ⟨A3, c3, rfl, hp, hb⟩
  have HB4 := Lib.hid (HB3.out.trans (hb.mono HB3.out.size))
  have HP0_4 := Lib.hid (HP0_3.out.under hb)
  have HP2_4 := Lib.hid (HP2_3.out.under hb)
  have HP3_4 := Lib.hid hp
  clear hp hb HC HB3 HP0_3 HP2_3
  have HC : Hid (Calls Tryd.prog 96 #[.slice (some ⟨w4.heap.size, 0, none⟩) 1 1] (w4.alloc (.cells #[.slice A3 1 c3] 123)) fun e w' => ∃ A' c', e = .returned (.slice A' 1 c') ∧ Parts lo w'.heap.size w' A' 1 c' [.mk 27 0 (ptsOf [(A3, 1, c3, (plainPts [83]))])] ∧ Below w4.heap.size w4 w') := iter_lit lo [(A3, 1, c3, (plainPts [83]))] w4 (by simp) (fun x hx => by
    simp only [List.mem_cons, List.not_mem_nil, or_false] at hx
    subst hx
    · exact ⟨HP3_4.out, (by show (1 : Nat) ≤ 100; omega)⟩
    ) (Nat.le_trans hlo HB4.out.size)
  go_wp2_with fail
  refine HC.out.mono ?_
  rintro e w5 ⟨A4, c4, rfl, hp, hb⟩
  have HB5 := Lib.hid (HB4.out.trans (hb.mono HB4.out.size))
  have HP0_5 := Lib.hid (HP0_4.out.under hb)
  have HP2_5 := Lib.hid (HP2_4.out.under hb)
  have HP4_5 := Lib.hid hp
  clear hp hb HC HB4 HP0_4 HP2_4 HP3_4
  have HC : Hid (Calls Tryd.prog 94 #[.slice (some ⟨w5.heap.size, 0, none⟩) 3 3] (w5.alloc (.cells #[.slice A0 8 c0, .slice A2 1 c2, .slice A4 1 c4] 123)) fun e w' => ∃ A' n' c', e = .returned (.slice A' n' c') ∧ Parts lo w'.heap.size w' A' n' c' (ptsOf [(A0, 8, c0, (plainPts [7, 75, 76, 77, 78, 79, 80, 81])), (A2, 1, c2, [.mk 27 0 (ptsOf [(A1, 1, c1, (plainPts [82]))])]), (A4, 1, c4, [.mk 27 0 (ptsOf [(A3, 1, c3, (plainPts [83]))])])]) ∧ Below w5.heap.size w5 w') := cat_lit lo [(A0, 8, c0, (plainPts [7, 75, 76, 77, 78, 79, 80, 81])), (A2, 1, c2, [.mk 27 0 (ptsOf [(A1, 1, c1, (plainPts [82]))])]), (A4, 1, c4, [.mk 27 0 (ptsOf [(A3, 1, c3, (plainPts [83]))])])] w5 (by simp) (fun x hx => by
    simp only [List.mem_cons, List.not_mem_nil, or_false] at hx
    rcases hx with rfl | rfl | rfl
    · exact ⟨HP0_5.out, (by show (8 : Nat) ≤ 100; omega)⟩
    · exact ⟨HP2_5.out, (by show (1 : Nat) ≤ 100; omega)⟩
    · exact ⟨HP4_5.out, (by show (1 : Nat) ≤ 100; omega)⟩
    ) (Nat.le_trans hlo HB5.out.size)
  go_wp2_with fail
  refine HC.out.mono ?_
  rintro e w6 ⟨A5, n5, c5, rfl, hp, hb⟩
  have HB6 := Lib.hid (HB5.out.trans (hb.mono HB5.out.size))
  have HP5_6 := Lib.hid hp
  clear hp hb HC HB5 HP0_5 HP2_5 HP4_5
  go_wp2
  go_ret
  exact ⟨A5, n5, c5, _, rfl, HP5_6.out, by kernel_rfl, HB6.out⟩
set_option maxRecDepth 100000 in
set_option maxHeartbeats 4000000 in
theorem layout_21 (lo : Nat) (w0 : World) (hlo : lo ≤ w0.heap.size) :
    Calls Tryd.prog 84 #[.int .i64 21] w0 fun e w' => ∃ A' n' c' l, e = .returned (.slice A' n' c') ∧ Parts lo w'.heap.size w' A' n' c' l ∧ ndPts l = astOf 21 ∧ Below w0.heap.size w0 w' := by
  have HB0 := Lib.hid (Below.refl w0.heap.size w0)
  go_enter Tryd.func84, Tryd.ntmps84
  have HC : Hid (Calls Tryd.prog 95 #[.slice (some ⟨w0.heap.size, 0, none⟩) 3 3] (w0.alloc (.cells #[.int .i64 48, .int .i64 49, .int .i64 50] 3)) fun e w' => ∃ A' c', e = .returned (.slice A' 3 c') ∧ Parts lo w'.heap.size w' A' 3 c' (plainPts [48, 49, 50]) ∧ Below w0.heap.size w0 w') := plain_lit lo [48, 49, 50] w0 (by decide) (Nat.le_trans hlo HB0.out.size)
  go_wp2_with fail
  refine HC.out.mono ?_
  rintro e w1 ⟨A0, c0, rfl, hp, hb⟩
  have HB1 := Lib.hid (HB0.out.trans (hb.mono HB0.out.size))
  have HP0_1 := Lib.hid hp
  clear hp hb HC HB0
  have HC : Hid (Calls Tryd.prog 97 #[.slice (some ⟨w1.heap.size, 0, none⟩) 1 1] (w1.alloc (.cells #[.slice A0 3 c0] 123)) fun e w' => ∃ A' n' c', e = .returned (.slice A' n' c') ∧ Parts lo w'.heap.size w' A' n' c' (omPts (ptsOf [(A0, 3, c0, (plainPts [48, 49, 50]))])) ∧ Below w1.heap.size w1 w') := oneOrMore_lit lo [(A0, 3, c0, (plainPts [48, 49, 50]))] w1 (by simp) (fun x hx => by
    simp only [List.mem_cons, List.not_mem_nil, or_false] at hx
    subst hx
    · exact ⟨HP0_1.out, (by show (3 : Nat) ≤ 100; omega)⟩
    ) (Nat.le_trans hlo HB1.out.size) (by simp [ptsOf, plainPts])
  go_wp2_with fail
  refine HC.out.mono ?_
  rintro e w2 ⟨A1, n1, c1, rfl, hp, hb⟩
  have HB2 := Lib.hid (HB1.out.trans (hb.mono HB1.out.size))
  have HP1_2 := Lib.hid hp
  clear hp hb HC HB1 HP0_1
  go_wp2
  go_ret
  exact ⟨A1, n1, c1, _, rfl, HP1_2.out, by kernel_rfl, HB2.out⟩
set_option maxRecDepth 100000 in
set_option maxHeartbeats 4000000 in
theorem layout_27 (lo : Nat) (w0 : World) (hlo : lo ≤ w0.heap.size) :
    Calls Tryd.prog 84 #[.int .i64 27] w0 fun e w' => ∃ A' n' c' l, e = .returned (.slice A' n' c') ∧ Parts lo w'.heap.size w' A' n' c' l ∧ ndPts l = astOf 27 ∧ Below w0.heap.size w0 w' := by
  have HB0 := Lib.hid (Below.refl w0.heap.size w0)
  go_enter Tryd.func84, Tryd.ntmps84
  have HC : Hid (Calls Tryd.prog 95 #[.slice (some ⟨w0.heap.size, 0, none⟩) 3 3] (w0.alloc (.cells #[.int .i64 51, .int .i64 52, .int .i64 53] 3)) fun e w' => ∃ A' c', e = .returned (.slice A' 3 c') ∧ Parts lo w'.heap.size w' A' 3 c' (plainPts [51, 52, 53]) ∧ Below w0.heap.size w0 w') := plain_lit lo [51, 52, 53] w0 (by decide) (Nat.le_trans hlo HB0.out.size)
  go_wp2_with fail
  refine HC.out.mono ?_
  rintro e w1 ⟨A0, c0, rfl, hp, hb⟩
  have HB1 := Lib.hid (HB0.out.trans (hb.mono HB0.out.size))
  have HP0_1 := Lib.hid hp
  clear hp hb HC HB0
  have HC : Hid (Calls Tryd.prog 95 #[.slice (some ⟨w1.heap.size, 0, none⟩) 2 2] (w1.alloc (.cells #[.int .i64 54, .int .i64 55] 3)) fun e w' => ∃ A' c', e = .returned (.slice A' 2 c') ∧ Parts lo w'.heap.size w' A' 2 c' (plainPts [54, 55]) ∧ Below w1.heap.size w1 w') := plain_lit lo [54, 55] w1 (by decide) (Nat.le_trans hlo HB1.out.size)
  go_wp2_with fail
  refine HC.out.mono ?_
  rintro e w2 ⟨A1, c1, rfl, hp, hb⟩
  have HB2 := Lib.hid (HB1.out.trans (hb.mono HB1.out.size))
  have HP0_2 := Lib.hid (HP0_1.out.under hb)
  have HP1_2 := Lib.hid hp
  clear hp hb HC HB1 HP0_1
  have HC : Hid (Calls Tryd.prog 96 #[.slice (some ⟨w2.heap.size, 0, none⟩) 1 1] (w2.alloc (.cells #[.slice A1 2 c1] 123)) fun e w' => ∃ A' c', e = .returned (.slice A' 1 c') ∧ Parts lo w'.heap.size w' A' 1 c' [.mk 27 0 (ptsOf [(A1, 2, c1, (plainPts [54, 55]))])] ∧ Below w2.heap.size w2 w') := iter_lit lo [(A1, 2, c1, (plainPts [54, 55]))] w2 (by simp) (fun x hx => by
    simp only [List.mem_cons, List.not_mem_nil, or_false] at hx
    subst hx
    · exact ⟨HP1_2.out, (by show (2 : Nat) ≤ 100; omega)⟩
    ) (Nat.le_trans hlo HB2.out.size)
  go_wp2_with fail
  refine HC.out.mono ?_
  rintro e w3 ⟨A2, c2, rfl, hp, hb⟩
  have HB3 := Lib.hid (HB2.out.trans (hb.mono HB2.out.size))
  have HP0_3 := Lib.hid (HP0_2.out.under hb)
  have HP2_3 := Lib.hid hp
  clear hp hb HC HB2 HP0_2 HP1_2
  have HC : Hid (Calls Tryd.prog 97 #[.slice (some ⟨w3.heap.size, 0, none⟩) 2 2] (w3.alloc (.cells #[.slice A0 3 c0, .slice A2 1 c2] 123)) fun e w' => ∃ A' n' c', e = .returned (.slice A' n' c') ∧ Parts lo w'.heap.size w' A' n' c' (omPts (ptsOf [(A0, 3, c0, (plainPts [51, 52, 53])), (A2, 1, c2, [.mk 27 0 (ptsOf [(A1, 2, c1, (plainPts [54, 55]))])])])) ∧ Below w3.heap.size w3 w') := oneOrMore_lit lo [(A0, 3, c0, (plainPts [51, 52, 53])), (A2, 1, c2, [.mk 27 0 (ptsOf [(A1, 2, c1, (plainPts [54, 55]))])])] w3 (by simp) (fun x hx => by
    simp only [List.mem_cons, List.not_mem_nil, or_false] at hx
    rcases hx with rfl | rfl
    · exact ⟨HP0_3.out, (by show (3 : Nat) ≤ 100; omega)⟩
    · exact ⟨HP2_3.out, (by show (1 : Nat) ≤ 100; omega)⟩
    ) (Nat.le_trans hlo HB3.out.size) (by simp [ptsOf, plainPts])
  go_wp2_with fail
  refine HC.out.mono ?_
  rintro e w4 ⟨A3, n3, c3, rfl, hp, hb⟩
  have HB4 := Lib.hid (HB3.out.trans (hb.mono HB3.out.size))
  have HP3_4 := Lib.hid hp
  clear hp hb HC HB3 HP0_3 HP2_3
  go_wp2
  go_ret
  exact ⟨A3, n3, c3, _, rfl, HP3_4.out, by kernel_rfl, HB4.out⟩
set_option maxRecDepth 100000 in
set_option maxHeartbeats 4000000 in
theorem layout_42 (lo : Nat) (w0 : World) (hlo : lo ≤ w0.heap.size) :
    Calls Tryd.prog 84 #[.int .i64 42] w0 fun e w' => ∃ A' n' c' l, e = .returned (.slice A' n' c') ∧ Parts lo w'.heap.size w' A' n' c' l ∧ ndPts l = astOf 42 ∧ Below w0.heap.size w0 w' := by
  have HB0 := Lib.hid (Below.refl w0.heap.size w0)
  go_enter Tryd.func84, Tryd.ntmps84
  have HC : Hid (Calls Tryd.prog 95 #[.slice (some ⟨w0.heap.size, 0, none⟩) 8 8] (w0.alloc (.cells #[.int .i64 6, .int .i64 7, .int .i64 62, .int .i64 10, .int .i64 63, .int .i64 64, .int .i64 64, .int .i64 65] 3)) fun e w' => ∃ A' c', e = .returned (.slice A' 8 c') ∧ Parts lo w'.heap.size w' A' 8 c' (plainPts [6, 7, 62, 10, 63, 64, 64, 65]) ∧ Below w0.heap.size w0 w') := plain_lit lo [6, 7, 62, 10, 63, 64, 64, 65] w0 (by decide) (Nat.le_trans hlo HB0.out.size)
  go_wp2_with fail
  refine HC.out.mono ?_
  rintro e w1 ⟨A0, c0, rfl, hp, hb⟩
  have HB1 := Lib.hid (HB0.out.trans (hb.mono HB0.out.size))
  have HP0_1 := Lib.hid hp
  clear hp hb HC HB0
  go_wp2
  go_ret
  exact ⟨A0, 8, c0, _, rfl, HP0_1.out, by kernel_rfl, HB1.out⟩
set_option maxRecDepth 100000 in
set_option maxHeartbeats 4000000 in
theorem layout_57 (lo : Nat) (w0 : World) (hlo : lo ≤ w0.heap.size) :
    Calls Tryd.prog 84 #[.int .i64 57] w0 fun e w' => ∃ A' n' c' l, e = .returned (.slice A' n' c') ∧ Parts lo w'.heap.size w' A' n' c' l ∧ ndPts l = astOf 57 ∧ Below w0.heap.size w0 w' := by
  have HB0 := Lib.hid (Below.refl w0.heap.size w0)
  go_enter Tryd.func84, Tryd.ntmps84
  have HC : Hid (Calls Tryd.prog 95 #[.slice (some ⟨w0.heap.size, 0, none⟩) 5 5] (w0.alloc (.cells #[.int .i64 6, .int .i64 7, .int .i64 66, .int .i64 67, .int .i64 68] 3)) fun e w' => ∃ A' c', e = .returned (.slice A' 5 c') ∧ Parts lo w'.heap.size w' A' 5 c' (plainPts [6, 7, 66, 67, 68]) ∧ Below w0.heap.size w0 w') := plain_lit lo [6, 7, 66, 67, 68] w0 (by decide) (Nat.le_trans hlo HB0.out.size)
  go_wp2_with fail
  refine HC.out.mono ?_
  rintro e w1 ⟨A0, c0, rfl, hp, hb⟩
  have HB1 := Lib.hid (HB0.out.trans (hb.mono HB0.out.size))
  have HP0_1 := Lib.hid hp
  clear hp hb HC HB0
  go_wp2
  go_ret
  exact ⟨A0, 5, c0, _, rfl, HP0_1.out, by kernel_rfl, HB1.out⟩
set_option maxRecDepth 100000 in
set_option maxHeartbeats 4000000 in
theorem layout_58 (lo : Nat) (w0 : World) (hlo : lo ≤ w0.heap.size) :
    Calls Tryd.prog 84 #[.int .i64 58] w0 fun e w' => ∃ A' n' c' l, e = .returned (.slice A' n' c') ∧ Parts lo w'.heap.size w' A' n' c' l ∧ ndPts l = astOf 58 ∧ Below w0.heap.size w0 w' := by
  have HB0 := Lib.hid (Below.refl w0.heap.size w0)
  go_enter Tryd.func84, Tryd.ntmps84
  have HC : Hid (Calls Tryd.prog 95 #[.slice (some ⟨w0.heap.size, 0, none⟩) 6 6] (w0.alloc (.cells #[.int .i64 6, .int .i64 7, .int .i64 8, .int .i64 69, .int .i64 70, .int .i64 71] 3)) fun e w' => ∃ A' c', e = .returned (.slice A' 6 c') ∧ Parts lo w'.heap.size w' A' 6 c' (plainPts [6, 7, 8, 69, 70, 71]) ∧ Below w0.heap.size w0 w') := plain_lit lo [6, 7, 8, 69, 70, 71] w0 (by decide) (Nat.le_trans hlo HB0.out.size)
  go_wp2_with fail
  refine HC.out.mono ?_
  rintro e w1 ⟨A0, c0, rfl, hp, hb⟩
  have HB1 := Lib.hid (HB0.out.trans (hb.mono HB0.out.size))
  have HP0_1 := Lib.hid hp
  clear hp hb HC HB0
  have HC : Hid (Calls Tryd.prog 95 #[.slice (some ⟨w1.heap.size, 0, none⟩) 2 2] (w1.alloc (.cells #[.int .i64 72, .int .i64 73] 3)) fun e w' => ∃ A' c', e = .returned (.slice A' 2 c') ∧ Parts lo w'.heap.size w' A' 2 c' (plainPts [72, 73]) ∧ Below w1.heap.size w1 w') := plain_lit lo [72, 73] w1 (by decide) (Nat.le_trans hlo HB1.out.size)
  go_wp2_with fail
  refine HC.out.mono ?_
  rintro e w2 ⟨A1, c1, rfl, hp, hb⟩
  have HB2 := Lib.hid (HB1.out.trans (hb.mono HB1.out.size))
  have HP0_2 := Lib.hid (HP0_1.out.under hb)
  have HP1_2 := Lib.hid hp
  clear hp hb HC HB1 HP0_1
  have HC : Hid (Calls Tryd.prog 96 #[.slice (some ⟨w2.heap.size, 0, none⟩) 1 1] (w2.alloc (.cells #[.slice A1 2 c1] 123)) fun e w' => ∃ A' c', e = .returned (.slice A' 1 c') ∧ Parts lo w'.heap.size w' A' 1 c' [.mk 27 0 (ptsOf [(A1, 2, c1, (plainPts [72, 73]))])] ∧ Below w2.heap.size w2 w') := iter_lit lo [(A1, 2, c1, (plainPts [72, 73]))] w2 (by simp) (fun x hx => by
    simp only [List.mem_cons, List.not_mem_nil, or_false] at hx
    subst hx
    · exact ⟨HP1_2.out, (by show (2 : Nat) ≤ 100; omega)⟩
    ) (Nat.le_trans hlo HB2.out.size)
  go_wp2_with fail
  refine HC.out.mono ?_
  rintro e w3 ⟨A2, c2, rfl, hp, hb⟩
  have HB3 := Lib.hid (HB2.out.trans (hb.mono HB2.out.size))
  have HP0_3 := Lib.hid (HP0_2.out.under hb)
  have HP2_3 := Lib.hid hp
  clear hp hb HC HB2 HP0_2 HP1_2
  have HC : Hid (Calls Tryd.prog 94 #[.slice (some ⟨w3.heap.size, 0, none⟩) 2 2] (w3.alloc (.cells #[.slice A0 6 c0, .slice A2 1 c2] 123)) fun e w' => ∃ A' n' c', e = .returned (.slice A' n' c') ∧ Parts lo w'.heap.size w' A' n' c' (ptsOf [(A0, 6, c0, (plainPts [6, 7, 8, 69, 70, 71])), (A2, 1, c2, [.mk 27 0 (ptsOf [(A1, 2, c1, (plainPts [72, 73]))])])]) ∧ Below w3.heap.size w3 w') := cat_lit lo [(A0, 6, c0, (plainPts [6, 7, 8, 69, 70, 71])), (A2, 1, c2, [.mk 27 0 (ptsOf [(A1, 2, c1, (plainPts [72, 73]))])])] w3 (by simp) (fun x hx => by
    simp only [List.mem_cons, List.not_mem_nil, or_false] at hx
    rcases hx with rfl | rfl
    · exact ⟨HP0_3.out, (by show (6 : Nat) ≤ 100; omega)⟩
    · exact ⟨HP2_3.out, (by show (1 : Nat) ≤ 100; omega)⟩
    ) (Nat.le_trans hlo HB3.out.size)
  go_wp2_with fail
  refine HC.out.mono ?_
  rintro e w4 ⟨A3, n3, c3, rfl, hp, hb⟩
  have HB4 := Lib.hid (HB3.out.trans (hb.mono HB3.out.size))
  have HP3_4 := Lib.hid hp
  clear hp hb HC HB3 HP0_3 HP2_3
  go_wp2
  go_ret
  exact ⟨A3, n3, c3, _, rfl, HP3_4.out, by kernel_rfl, HB4.out⟩
set_option maxRecDepth 100000 in
set_option maxHeartbeats 4000000 in
theorem layout_80 (lo : Nat) (w0 : World) (hlo : lo ≤ w0.heap.size) :
    Calls Tryd.prog 84 #[.int .i64 80] w0 fun e w' => ∃ A' n' c' l, e = .returned (.slice A' n' c') ∧ Parts lo w'.heap.size w' A' n' c' l ∧ ndPts l = astOf 80 ∧ Below w0.heap.size w0 w' := by
  have HB0 := Lib.hid (Below.refl w0.heap.size w0)
  go_enter Tryd.func84, Tryd.ntmps84
  have HC : Hid (Calls Tryd.prog 95 #[.slice (some ⟨w0.heap.size, 0, none⟩) 6 6] (w0.alloc (.cells #[.int .i64 56, .int .i64 57, .int .i64 58, .int .i64 59, .int .i64 60, .int .i64 61] 3)) fun e w' => ∃ A' c', e = .returned (.slice A' 6 c') ∧ Parts lo w'.heap.size w' A' 6 c' (plainPts [56, 57, 58, 59, 60, 61]) ∧ Below w0.heap.size w0 w') := plain_lit lo [56, 57, 58, 59, 60, 61] w0 (by decide) (Nat.le_trans hlo HB0.out.size)
  go_wp2_with fail
  refine HC.out.mono ?_
  rintro e w1 ⟨A0, c0, rfl, hp, hb⟩
  have HB1 := Lib.hid (HB0.out.trans (hb.mono HB0.out.size))
  have HP0_1 := Lib.hid hp
  clear hp hb HC HB0
  have HC : Hid (Calls Tryd.prog 97 #[.slice (some ⟨w1.heap.size, 0, none⟩) 1 1] (w1.alloc (.cells #[.slice A0 6 c0] 123)) fun e w' => ∃ A' n' c', e = .returned (.slice A' n' c') ∧ Parts lo w'.heap.size w' A' n' c' (omPts (ptsOf [(A0, 6, c0, (plainPts [56, 57, 58, 59, 60, 61]))])) ∧ Below w1.heap.size w1 w') := oneOrMore_lit lo [(A0, 6, c0, (plainPts [56, 57, 58, 59, 60, 61]))] w1 (by simp) (fun x hx => by
    simp only [List.mem_cons, List.not_mem_nil, or_false] at hx
    subst hx
    · exact ⟨HP0_1.out, (by show (6 : Nat) ≤ 100; omega)⟩
    ) (Nat.le_trans hlo HB1.out.size) (by simp [ptsOf, plainPts])
  go_wp2_with fail
  refine HC.out.mono ?_
  rintro e w2 ⟨A1, n1, c1, rfl, hp, hb⟩
  have HB2 := Lib.hid (HB1.out.trans (hb.mono HB1.out.size))
  have HP1_2 := Lib.hid hp
  clear hp hb HC HB1 HP0_1
  go_wp2
  go_ret
  exact ⟨A1, n1, c1, _, rfl, HP1_2.out, by kernel_rfl, HB2.out⟩
set_option maxHeartbeats 1000000 in
theorem layout_0 (lo : Nat) (w0 : World) (hlo : lo ≤ w0.heap.size) :
    Calls Tryd.prog 84 #[.int .i64 0] w0 fun e w' => ∃ A' n' c' l, e = .returned (.slice A' n' c') ∧ Parts lo w'.heap.size w' A' n' c' l ∧ ndPts l = astOf 0 ∧ Below w0.heap.size w0 w' := by
  have HC : Hid (Calls Tryd.prog 93 #[.slice (some ⟨w0.heap.size, 0, none⟩) 1 1] (w0.alloc (.cells #[.int .i64 4] 3)) fun e w' => ∃ A' n' c', e = .returned (.slice A' n' c') ∧ Parts lo w'.heap.size w' A' n' c' (reportPts [4]) ∧ Below w0.heap.size w0 w') := report_lit lo [4] w0 (by decide) hlo
  go_enter Tryd.func84, Tryd.ntmps84
  go_wp2_with fail
  refine HC.out.mono ?_
  rintro e w1 ⟨A1, n1, c1, rfl, hp, hb⟩
  have HP := Lib.hid hp; have HB := Lib.hid hb; clear hp hb HC
  go_wp2
  go_ret
  exact ⟨A1, n1, c1, _, rfl, HP.out, by kernel_rfl, HB.out⟩
set_option maxHeartbeats 1000000 in
theorem layout_1 (lo : Nat) (w0 : World) (hlo : lo ≤ w0.heap.size) :
    Calls Tryd.prog 84 #[.int .i64 1] w0 fun e w' => ∃ A' n' c' l, e = .returned (.slice A' n' c') ∧ Parts lo w'.heap.size w' A' n' c' l ∧ ndPts l = astOf 1 ∧ Below w0.heap.size w0 w' := by
  have HC : Hid (Calls Tryd.prog 93 #[.slice (some ⟨w0.heap.size, 0, none⟩) 2 2] (w0.alloc (.cells #[.int .i64 4, .int .i64 74] 3)) fun e w' => ∃ A' n' c', e = .returned (.slice A' n' c') ∧ Parts lo w'.heap.size w' A' n' c' (reportPts [4, 74]) ∧ Below w0.heap.size w0 w') := report_lit lo [4, 74] w0 (by decide) hlo
  go_enter Tryd.func84, Tryd.ntmps84
  go_wp2_with fail
  refine HC.out.mono ?_
  rintro e w1 ⟨A1, n1, c1, rfl, hp, hb⟩
  have HP := Lib.hid hp; have HB := Lib.hid hb; clear hp hb HC
  go_wp2
  go_ret
  exact ⟨A1, n1, c1, _, rfl, HP.out, by kernel_rfl, HB.out⟩
set_option maxHeartbeats 1000000 in
theorem layout_15 (lo : Nat) (w0 : World) (hlo : lo ≤ w0.heap.size) :
    Calls Tryd.prog 84 #[.int .i64 15] w0 fun e w' => ∃ A' n' c' l, e = .returned (.slice A' n' c') ∧ Parts lo w'.heap.size w' A' n' c' l ∧ ndPts l = astOf 15 ∧ Below w0.heap.size w0 w' := by
  have HC : Hid (Calls Tryd.prog 99 #[] w0 fun e w' => ∃ A' n' c' l, e = .returned (.slice A' n' c') ∧ Parts lo w'.heap.size w' A' n' c' l ∧ ndPts l = astOf 15 ∧ Below w0.heap.size w0 w') := authority_parts lo w0 hlo
  go_enter Tryd.func84, Tryd.ntmps84
  go_wp2_with fail
  refine HC.out.mono ?_
  rintro e w1 ⟨A1, n1, c1, l1, rfl, hp, hl, hb⟩
  have HP := Lib.hid hp; have HB := Lib.hid hb; have HL := Lib.hid hl; clear hl; clear hp hb HC
  go_wp2
  go_ret
  exact ⟨A1, n1, c1, _, rfl, HP.out, HL.out, HB.out⟩
set_option maxHeartbeats 1000000 in
theorem layout_none (id : Int) (h : ¬ (id = 0 ∨ id = 1 ∨ id = 3 ∨ id = 5 ∨ id = 11 ∨ id = 15 ∨ id = 21 ∨ id = 27 ∨ id = 42 ∨ id = 57 ∨ id = 58 ∨ id = 80)) (w : World) :
    Calls Tryd.prog 84 #[.int .i64 id] w fun e w' => e = .returned (.slice none 0 0) ∧ w = w' := by
  obtain ⟨h0, h1, h3, h5, h11, h15, h21, h27, h42, h57, h58, h80⟩ : id ≠ 0 ∧ id ≠ 1 ∧ id ≠ 3 ∧ id ≠ 5 ∧ id ≠ 11 ∧ id ≠ 15 ∧ id ≠ 21 ∧ id ≠ 27 ∧ id ≠ 42 ∧ id ≠ 57 ∧ id ≠ 58 ∧ id ≠ 80 := by omega
  clear h
  go_enter Tryd.func84, Tryd.ntmps84
  go_wp2
  go_ret
  exact ⟨rfl, rfl⟩
theorem known_ids {id : Int} : knownB id = true ↔ (id = 0 ∨ id = 1 ∨ id = 3 ∨ id = 5 ∨ id = 11 ∨ id = 15 ∨ id = 21 ∨ id = 27 ∨ id = 42 ∨ id = 57 ∨ id = 58 ∨ id = 80) := by
  unfold knownB
  simp only [Bool.or_eq_true, decide_eq_true_eq]
  omega
theorem layout_yes (lo : Nat) (id : Int) (hk : knownB id = true) (w : World) (hlo : lo ≤ w.heap.size) :
    Calls Tryd.prog 84 #[.int .i64 id] w fun e w' => ∃ A' n' c' l, e = .returned (.slice A' n' c') ∧ Parts lo w'.heap.size w' A' n' c' l ∧ ndPts l = astOf id ∧ Below w.heap.size w w' := by
  rcases known_ids.1 hk with rfl | rfl | rfl | rfl | rfl | rfl | rfl | rfl | rfl | rfl | rfl | rfl
  · exact layout_0 lo w hlo
  · exact layout_1 lo w hlo
  · exact layout_3 lo w hlo
  · exact layout_5 lo w hlo
  · exact layout_11 lo w hlo
  · exact layout_15 lo w hlo
  · exact layout_21 lo w hlo
  · exact layout_27 lo w hlo
  · exact layout_42 lo w hlo
  · exact layout_57 lo w hlo
  · exact layout_58 lo w hlo
  · exact layout_80 lo w hlo
theorem layout_no (id : Int) (hk : knownB id = false) (w : World) :
    Calls Tryd.prog 84 #[.int .i64 id] w fun e w' => e = .returned (.slice none 0 0) ∧ w = w' :=
  layout_none id (fun h => by rw [known_ids.2 h] at hk; cases hk) w
end Go.Proofs.YtamnhnleipnhdaaDoor
