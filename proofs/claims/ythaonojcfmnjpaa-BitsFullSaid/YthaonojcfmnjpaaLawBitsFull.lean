/-
  BitsFull: a writer has at most 8184 bits, and takes all that have room: whatever was put.
-/
import Derived.Test.YthaonojcfmnjpaaLawItems
namespace Go.Proofs.Ythaonojcfmnjpaa
open Go.RowKit
open BitsM

set_option maxHeartbeats 1000000 in
theorem bitsFull_out (A : Option Addr) (n c : Nat) (k : Int) (w : World) (h : 400 < n ∨ k < 1 ∨ 32 < k) :
    Calls Try.prog 9 #[.slice A n c, .int .i64 k] w fun e w' => e = .returned (.bool true) ∧ Below w.heap.size w w' := by
  by_cases h1 : 400 < (n : Int)
  · go_enter Try.func9, Try.ntmps9
    go_wp2_with (first | (go_at_call 10; refine (awake_any _).mono ?_; rintro e w1 ⟨rfl, hb1⟩))
    go_ret
    exact ⟨rfl, hb1⟩
  by_cases h2 : k < 1
  · go_enter Try.func9, Try.ntmps9
    go_wp2_with (first | (go_at_call 10; refine (awake_any _).mono ?_; rintro e w1 ⟨rfl, hb1⟩))
    go_ret
    exact ⟨rfl, hb1⟩
  · have h3 : 32 < k := by omega
    clear h
    go_enter Try.func9, Try.ntmps9
    go_wp2_with (first | (go_at_call 10; refine (awake_any _).mono ?_; rintro e w1 ⟨rfl, hb1⟩))
    go_ret
    exact ⟨rfl, hb1⟩

set_option maxRecDepth 100000 in
set_option maxHeartbeats 2000000 in
theorem bitsFull_in (A : Option Addr) (n c : Nat) (l : List (Int × Int)) (k : Int) (w : World) (hl : InItems w A n l) (hn : n ≤ 400) (h1 : 1 ≤ k) (h2 : k ≤ 32) :
    Calls Try.prog 9 #[.slice A n c, .int .i64 k] w fun e w' => e = .returned (.bool true) ∧ Below w.heap.size w w' := by
  have h3 : ¬ 400 < (n : Int) := by omega
  have h4 : ¬ k < 1 := by omega
  have h5 : ¬ 32 < k := by omega
  have HI := Lib.hid hl; clear hl
  go_enter Try.func9, Try.ntmps9
  go_wp2_with (first
    | (go_at_call 10; refine (awake_any _).mono ?_; rintro e w1 ⟨rfl, hb1⟩)
    | (with_reducible refine wpList_zeroed (o := ⟨some 27, _, _, _, _, _⟩) rfl 27 rfl (wcells []) built_writer ?_))
  have HB1 := Lib.hid hb1; clear hb1
  go_loopw [7] (fun i wr => ∃ j : Nat, j ≤ n ∧ i = .int .i64 j ∧ IsW wr w1.heap.size (puts l j) ∧ Below w.heap.size w wr) (fun i _ => n - (intOf i).toNat)
  case atStart => exact ⟨0, by omega, rfl, isW_new w1, HB1.out.alloc HB1.out.size _⟩
  case round =>
    obtain ⟨j, hj, rfl, hw, hb⟩ := hrel
    by_cases hlt : j < n
    · obtain ⟨b, off, rfl, hc0, hc1⟩ := items_at HI.out hb hlt
      obtain ⟨x0, hx0⟩ : ∃ x, x = (l.getD j (0, 0)).1 := ⟨_, rfl⟩
      obtain ⟨x1, hx1⟩ : ∃ x, x = (l.getD j (0, 0)).2 := ⟨_, rfl⟩
      rw [← hx0] at hc0
      rw [← hx1] at hc1
      have HX0 := Lib.hid hx0; clear hx0
      have HX1 := Lib.hid hx1; clear hx1
      have HW := Lib.hid hw; clear hw
      have HB := Lib.hid hb; clear hb
      go_wp2_with fail
      go_still_tail 11, (by kernel_rfl)
      change wpList _ _ _ _ _ wr.drew
      go_wp2_with (go_at_call 12; refine (put_any w1.heap.size (puts l j) x0 x1 _ (HW.out.draws 1)).mono ?_; rintro e w2 ⟨rfl, hw2, hg2⟩)
      go_roundw
      case rel =>
        refine ⟨j + 1, by omega, by go_num, ?_, below_only (below_draws HB.out 1) hg2 ?_ HB1.out.size⟩
        · rw [puts_succ l j (by have := HI.out.1; omega), ← HX0.out, ← HX1.out]
          exact hw2
        · exact HB.out.size
      case measure => simp [intOf]; omega
    · obtain rfl : j = n := by omega
      obtain ⟨bs, hbs⟩ : ∃ bs, bs = puts l j := ⟨_, rfl⟩
      rw [← hbs] at hw
      clear hbs
      have hlen := hw.1
      have HW := Lib.hid hw; clear hw
      have HB := Lib.hid hb; clear hb
      go_wp2_with fail
      refine (len_any _ bs _ HW.out).mono ?_
      rintro e w3 ⟨rfl, rfl⟩
      go_wp2_with fail
      have c4 := put_any w1.heap.size bs 0 k _ HW.out
      have h2k : (0 : Int) < ((2 ^ k.toNat : Nat) : Int) := by have := Nat.two_pow_pos k.toNat; omega
      by_cases hfit : bs.length + k.toNat ≤ 8184
      · have e4 : putE bs 0 k = 0 := by unfold putE; rw [if_pos ⟨h1, h2, by omega, h2k⟩, if_pos hfit]
        rw [e4] at c4
        clear e4 h2k
        refine c4.mono ?_
        clear c4
        rintro e w5 ⟨rfl, hw5, hg5⟩
        have hl5 := hw5.1
        have HW5 := Lib.hid hw5; clear hw5
        have HB5 := Lib.hid (below_only HB.out hg5 HB.out.size HB1.out.size); clear hg5
        have hsum : (bs.length : Int) + k ≤ 8184 := by omega
        go_wp2_with fail
        refine (bytes_any _ _ _ HW5.out).mono ?_
        rintro e w6 ⟨rfl, _, hb6⟩
        have hob : ¬ (1023 : Int) < ((outBytes (putB bs 0 k)).length : Int) := by rw [outBytes_length]; omega
        have HB6 := Lib.hid (HB5.out.trans (hb6.mono HB5.out.size)); clear hb6
        go_wp2
        go_ret
        exact ⟨rfl, HB6.out⟩
      · have e4 : putE bs 0 k = 2 := by unfold putE; rw [if_pos ⟨h1, h2, by omega, h2k⟩, if_neg hfit]
        rw [e4] at c4
        clear e4 h2k
        refine c4.mono ?_
        clear c4
        rintro e w5 ⟨rfl, hw5, hg5⟩
        have hl5 := hw5.1
        have HW5 := Lib.hid hw5; clear hw5
        have HB5 := Lib.hid (below_only HB.out hg5 HB.out.size HB1.out.size); clear hg5
        have hsum : ¬ (bs.length : Int) + k ≤ 8184 := by omega
        have hsum2 : 8184 < (bs.length : Int) + k := by omega
        go_wp2_with fail
        refine (bytes_any _ _ _ HW5.out).mono ?_
        rintro e w6 ⟨rfl, _, hb6⟩
        have hob : ¬ (1023 : Int) < ((outBytes (putB bs 0 k)).length : Int) := by rw [outBytes_length]; omega
        have HB6 := Lib.hid (HB5.out.trans (hb6.mono HB5.out.size)); clear hb6
        go_wp2
        go_ret
        exact ⟨rfl, HB6.out⟩

theorem bitsFull_walk (A : Option Addr) (n c : Nat) (l : List (Int × Int)) (k : Int) (w : World) (h : InItems w A n l) (_h1 : (Lit.int .i64 k).wf = true) :
    Calls Try.prog 9 #[.slice A n c, .int .i64 k] w fun e w' => e = .returned (.bool true) ∧ Below w.heap.size w w' := by
  by_cases hin : n ≤ 400 ∧ 1 ≤ k ∧ k ≤ 32
  · exact bitsFull_in A n c l k w h hin.1 hin.2.1 hin.2.2
  · exact bitsFull_out A n c k w (by omega)
end Go.Proofs.Ythaonojcfmnjpaa
