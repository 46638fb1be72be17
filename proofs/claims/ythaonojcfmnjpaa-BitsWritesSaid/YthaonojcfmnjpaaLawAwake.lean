/-
  linesidelaw01.awake: the chapter's examples hold.
-/
import Derived.Test.YthaonojcfmnjpaaBitsRead
namespace Go.Proofs.Ythaonojcfmnjpaa
open Go.RowKit
open BitsM

theorem built_writer : Try.prog.built 27 [] = some (wcells []) := by kernel_rfl

theorem isW_new (w : World) : IsW (w.alloc (.cells (wcells []) 27)) w.heap.size [] := ⟨by simp, Has.made _ _ _⟩

set_option maxRecDepth 100000 in
set_option maxHeartbeats 1000000 in
theorem awake_any (w : World) : Calls Try.prog 10 #[] w fun e w' => e = .returned (.bool true) ∧ Below w.heap.size w w' := by
  go_enter Try.func10, Try.ntmps10
  go_wp2_with (with_reducible refine wpList_zeroed (o := ⟨some 11, _, _, _, _, _⟩) rfl 27 rfl (wcells []) built_writer ?_)
  have hB0 := (Below.refl w.heap.size w).alloc (Nat.le_refl _) (.cells (wcells []) 27)
  have HB0 := Lib.hid hB0; clear hB0
  refine (put_fits w.heap.size [] 5 3 (by omega) (by omega) (by decide) _ (isW_new w) (by simp)).mono ?_
  rintro e w1 ⟨rfl, hw1, hg1⟩
  have hB1 := below_only HB0.out hg1 (by simp) (Nat.le_refl _)
  have HW1 := Lib.hid hw1; have HB1 := Lib.hid hB1; clear hw1 hg1 hB1 HB0
  go_wp2_with fail
  refine (put_fits w.heap.size _ 1 7 (by omega) (by omega) (by decide) _ HW1.out (by simp [wbits_length])).mono ?_
  rintro e w2 ⟨rfl, hw2, hg2⟩
  have hB2 := below_only HB1.out hg2 HB1.out.size (Nat.le_refl _)
  have HW2 := Lib.hid hw2; have HB2 := Lib.hid hB2; clear hw2 hg2 hB2 HB1 HW1
  go_wp2_with fail
  have ha : At8 (w2.alloc (.cells #[.int .u8 160, .int .u8 64] 5)) (some ⟨w2.heap.size, 0, none⟩) [160, 64] := At8.of_has (Has.made w2 5 _)
  have HA := Lib.hid ha; clear ha
  refine (read_any _ 2 [160, 64] _ HA.out (by decide) (by decide)).mono ?_
  rintro e w3 ⟨gr, rfl, hgr, hr3, hb3⟩
  have hB3 := (HB2.out.alloc HB2.out.size (.cells #[.int .u8 160, .int .u8 64] 5)).trans (hb3.mono (by have := HB2.out.size; simp; omega))
  have hW3 : IsW w3 w.heap.size _ := ⟨HW2.out.1, (HW2.out.2.beside (.cells #[.int .u8 160, .int .u8 64] 5)).under hb3 (by have := HW2.out.2.lt; simp; omega)⟩
  have hgr' : w.heap.size < gr := by have := HW2.out.2.lt; simp at hgr; omega
  have HR3 := Lib.hid hr3; have HB3 := Lib.hid hB3; have HW3 := Lib.hid hW3; clear hr3 hb3 hB3 hW3 hgr HB2 HW2 HA
  go_wp2_with fail
  have c3 := get_fits gr [160, 64] 0 3 (by omega) (by omega) _ HR3.out (by decide)
  rw [show num (bitsFrom [160, 64] 0 3) = 5 from by decide] at c3
  refine c3.mono ?_
  clear c3
  rintro e w4 ⟨rfl, hr4, hg4⟩
  have hB4 := below_only HB3.out hg4 HB3.out.size (Nat.le_of_lt hgr')
  have hW4 : IsW w4 w.heap.size _ := ⟨HW3.out.1, HW3.out.2.grow hg4 (by simp; omega)⟩
  have HR4 := Lib.hid hr4; have HB4 := Lib.hid hB4; have HW4 := Lib.hid hW4; clear hr4 hg4 hB4 hW4 HB3 HW3 HR3
  go_wp2_with fail
  have c4 := get_fits gr [160, 64] 3 7 (by omega) (by omega) _ HR4.out (by decide)
  rw [show num (bitsFrom [160, 64] 3 7) = 1 from by decide] at c4
  refine c4.mono ?_
  clear c4
  rintro e w5 ⟨rfl, hr5, hg5⟩
  have hB5 := below_only HB4.out hg5 HB4.out.size (Nat.le_of_lt hgr')
  have hW5 : IsW w5 w.heap.size _ := ⟨HW4.out.1, HW4.out.2.grow hg5 (by simp; omega)⟩
  have HR5 := Lib.hid hr5; have HB5 := Lib.hid hB5; have HW5 := Lib.hid hW5; clear hr5 hg5 hB5 hW5 HB4 HW4 HR4
  go_wp2_with fail
  refine (get_short gr [160, 64] 10 7 (by omega) (by omega) _ HR5.out (by decide)).mono ?_
  rintro e w6 ⟨rfl, n6, rfl⟩
  go_wp2_with fail
  have c7 := len_any _ _ (w5.drewN n6) (show IsW (w5.drewN n6) w.heap.size (([] ++ wbits 5 3 3) ++ wbits 1 7 7) from HW5.out)
  refine c7.mono ?_
  clear c7
  rintro e w7 ⟨rfl, rfl⟩
  go_wp2_with fail
  have c8 := bytes_any _ _ (w5.drewN n6) (show IsW (w5.drewN n6) w.heap.size (([] ++ wbits 5 3 3) ++ wbits 1 7 7) from HW5.out)
  rw [show outBytes (([] ++ wbits 5 3 3) ++ wbits 1 7 7) = [160, 64] from by decide] at c8
  refine c8.mono ?_
  clear c8
  rintro e w8 ⟨rfl, h8, hb8⟩
  have hcv : (convert 36 9 (.slice (some ⟨w5.heap.size, 0, none⟩) 2 2)).run Try.prog w8 = .ok (.string ⟨#[160, 64]⟩) w8 := conv8 _ 2 [160, 64] w8 (At8.of_has h8)
  have HR8 := Lib.hid ((isR_draws HR5.out n6).under hb8 (Nat.le_refl _))
  have HB8 := Lib.hid ((below_draws HB5.out n6).trans (hb8.mono HB5.out.size))
  clear h8 hb8 HB5 HR5 HW5
  go_wp2_with fail
  have c9 := left_any gr [160, 64] 10 w8 HR8.out
  rw [show 8 * [160, 64].length - 10 = 6 from rfl] at c9
  refine c9.mono ?_
  clear c9
  rintro e w9 ⟨rfl, n9, rfl⟩
  go_wp2
  go_ret
  exact ⟨rfl, below_draws HB8.out n9⟩

end Go.Proofs.Ythaonojcfmnjpaa
