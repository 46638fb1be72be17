/-
  BitsRefuses: what is refused changes nothing: whatever was put, whatever is put or got next.
-/
import Derived.Test.YthaonojcfmnjpaaLawItems
import Derived.Deep.DeepCutAuto
namespace Go.Proofs.Ythaonojcfmnjpaa
open Go.RowKit
open BitsM

set_option maxHeartbeats 1000000 in
theorem bitsRefuses_out (A : Option Addr) (n c : Nat) (x0 x1 : Int) (w : World) (h : 400 < n) :
    Calls Try.prog 7 #[.slice A n c, .agg #[.int .i64 x0, .int .i64 x1]] w fun e w' => e = .returned (.bool true) ∧ Below w.heap.size w w' := by
  have h1 : 400 < (n : Int) := by omega
  go_enter Try.func7, Try.ntmps7
  go_wp2_with (first | (go_at_call 10; refine (awake_any _).mono ?_; rintro e w1 ⟨rfl, hb1⟩))
  go_ret
  exact ⟨rfl, ((Below.refl _ _).alloc (Nat.le_refl _) _).trans (hb1.mono (by simp))⟩

set_option maxRecDepth 100000 in
set_option maxHeartbeats 2000000 in
theorem bitsRefuses_in (A : Option Addr) (n c : Nat) (l : List (Int × Int)) (x0 x1 : Int) (w : World) (hl : InItems w A n l) (hn : n ≤ 400) :
    Calls Try.prog 7 #[.slice A n c, .agg #[.int .i64 x0, .int .i64 x1]] w fun e w' => e = .returned (.bool true) ∧ Below w.heap.size w w' := by
  have h3 : ¬ 400 < (n : Int) := by omega
  have HI := Lib.hid hl; clear hl
  go_enter Try.func7, Try.ntmps7
  go_wp2_with (first
    | (go_at_call 10; refine (awake_any _).mono ?_; rintro e w1 ⟨rfl, hb1⟩)
    | (with_reducible refine wpList_zeroed (o := ⟨some 24, _, _, _, _, _⟩) rfl 27 rfl (wcells []) built_writer ?_))
  have HX1 := Lib.hid ((Has.made w 33 #[.int .i64 x0, .int .i64 x1]).under hb1 (by simp))
  have HB1 := Lib.hid (((Below.refl _ _).alloc (Nat.le_refl _) _).trans (hb1.mono (by simp)) : Below w.heap.size w w1)
  have HL1 := Lib.hid (by have := hb1.size; simp at this; omega : w.heap.size < w1.heap.size)
  clear hb1
  go_loopw [7] (fun i wr => ∃ j : Nat, j ≤ n ∧ i = .int .i64 j ∧ IsW wr w1.heap.size (puts l j) ∧ Has wr w.heap.size 33 #[.int .i64 x0, .int .i64 x1] ∧ Below w.heap.size w wr) (fun i _ => n - (intOf i).toNat)
  case atStart => exact ⟨0, by omega, rfl, isW_new w1, HX1.out.beside _, HB1.out.alloc HB1.out.size _⟩
  case round =>
    obtain ⟨j, hj, rfl, hw, hx, hb⟩ := hrel
    by_cases hlt : j < n
    · obtain ⟨b, off, rfl, hc0, hc1⟩ := items_at HI.out hb hlt
      obtain ⟨y0, hy0⟩ : ∃ x, x = (l.getD j (0, 0)).1 := ⟨_, rfl⟩
      obtain ⟨y1, hy1⟩ : ∃ x, x = (l.getD j (0, 0)).2 := ⟨_, rfl⟩
      rw [← hy0] at hc0
      rw [← hy1] at hc1
      have HY0 := Lib.hid hy0; clear hy0
      have HY1 := Lib.hid hy1; clear hy1
      have HW := Lib.hid hw; clear hw
      have HX := Lib.hid hx; clear hx
      have HB := Lib.hid hb; clear hb
      go_wp2_with fail
      go_still_tail 11, (by kernel_rfl)
      change wpList _ _ _ _ _ wr.drew
      go_wp2_with (go_at_call 12; refine (put_any w1.heap.size (puts l j) y0 y1 _ (HW.out.draws 1)).mono ?_; rintro e w2 ⟨rfl, hw2, hg2⟩)
      go_roundw
      case rel =>
        refine ⟨j + 1, by omega, by go_num, ?_, (HX.out.draws 1).grow hg2 (by have := HL1.out; simp; omega), below_only (below_draws HB.out 1) hg2 HB.out.size HB1.out.size⟩
        rw [puts_succ l j (by have := HI.out.1; omega), ← HY0.out, ← HY1.out]
        exact hw2
      case measure => simp [intOf]; omega
    · obtain rfl : j = n := by omega
      obtain ⟨bs, hbs⟩ : ∃ bs, bs = puts l j := ⟨_, rfl⟩
      rw [← hbs] at hw
      clear hbs hj hlt
      have HW := Lib.hid hw; clear hw
      have HX := Lib.hid hx; clear hx
      have HB := Lib.hid hb; clear hb
      have HL2 := Lib.hid (HW.out.2.lt); have HL1' := HL1
      obtain ⟨xs, hxs⟩ : ∃ xs, xs = outBytes bs := ⟨_, rfl⟩
      have hb256 : ∀ x ∈ xs, x < 256 := by
        intro x hx
        rw [hxs] at hx
        simp only [outBytes, List.mem_map] at hx
        obtain ⟨i, _, rfl⟩ := hx
        exact byteAt_lt _ _
      have hxl : xs.length ≤ 1023 := by have := HW.out.1; rw [hxs, outBytes_length]; omega
      have HXS := Lib.hid hxs; clear hxs
      have HXB := Lib.hid hb256; clear hb256
      go_wp2_with fail
      have c3 := bytes_any _ bs _ HW.out
      rw [← HXS.out] at c3
      refine c3.mono ?_
      clear c3
      rintro e w3 ⟨rfl, h3', hb3⟩
      have hcv : (convert 36 9 (.slice (some ⟨wr.heap.size, 0, none⟩) xs.length xs.length)).run Try.prog w3 = .ok (.string (str8 xs)) w3 := conv8 _ _ xs w3 (At8.of_has h3')
      have hcx0 : w3.cell? ⟨w.heap.size, 0, none⟩ = some (.int .i64 x0) := by rw [(HX.out.under hb3 HX.out.lt).cell]; rfl
      have hcx1 : w3.cell? ⟨w.heap.size, 1, none⟩ = some (.int .i64 x1) := by rw [(HX.out.under hb3 HX.out.lt).cell]; rfl
      have HW3 := Lib.hid (HW.out.under hb3 (Nat.le_refl _))
      have HX3 := Lib.hid (HX.out.under hb3 HX.out.lt)
      have HB3 := Lib.hid (HB.out.trans (hb3.mono HB.out.size))
      clear h3' hb3 HW HX HB
      go_wp2_with fail
      refine (len_any _ bs _ HW3.out).mono ?_
      rintro e w4 ⟨rfl, rfl⟩
      go_wp2_with fail
      have c5 := put_any w1.heap.size bs x0 x1 _ HW3.out
      obtain ⟨E, hE⟩ : ∃ E, E = putE bs x0 x1 := ⟨_, rfl⟩
      rw [← hE] at c5
      have HE := Lib.hid hE; clear hE
      refine c5.mono ?_
      clear c5
      rintro e w4 ⟨rfl, hw4, hg4⟩
      have HX4 := Lib.hid (HX3.out.grow hg4 (by have := HL1.out; simp; omega))
      have HB4 := Lib.hid (below_only HB3.out hg4 HB3.out.size HB1.out.size)
      have HW4 := Lib.hid hw4
      clear hw4 hg4 HX3 HB3 hcx0 hcx1 hcv HW3
      go_upto_region 12 with fail
      go_cut [69] (fun s wc => s = .bool false ∧ Has wc w.heap.size 33 #[.int .i64 x0, .int .i64 x1] ∧ Below w.heap.size w wc)
      case first =>
        by_cases hput : E = 0
        · subst hput
          go_wp2_with fail
          go_meet
          exact ⟨rfl, HX4.out, HB4.out⟩
        · have hE0 : (E != 0) = true := by simpa using hput
          have HW4' := HW4.out
          rw [putB_no (by rw [← HE.out]; exact hput)] at HW4'
          have HW5 := Lib.hid HW4'; clear HW4' HW4 HE hput
          go_wp2_with fail
          have c3 := bytes_any _ bs _ HW5.out
          rw [← HXS.out] at c3
          refine c3.mono ?_
          clear c3
          rintro e w5 ⟨rfl, h5', hb5⟩
          have hcv : (convert 36 9 (.slice (some ⟨w4.heap.size, 0, none⟩) xs.length xs.length)).run Try.prog w5 = .ok (.string (str8 xs)) w5 := conv8 _ _ xs w5 (At8.of_has h5')
          have HW6 := Lib.hid (HW5.out.under hb5 (Nat.le_refl _))
          have HX5 := Lib.hid (HX4.out.under hb5 HX4.out.lt)
          have HB5 := Lib.hid (HB4.out.trans (hb5.mono HB4.out.size))
          clear h5' hb5 HW5 HX4 HB4
          go_wp2_with fail
          refine (len_any _ bs _ HW6.out).mono ?_
          rintro e w6 ⟨rfl, rfl⟩
          clear hcv
          go_wp2_with fail
          go_meet
          exact ⟨rfl, HX5.out, HB5.out⟩
      case rest =>
      clear HX4 HB4 HW4 HE
      obtain ⟨rfl, hx5, hb5⟩ := hcut
      have HX5 := Lib.hid hx5; clear hx5
      have HB5 := Lib.hid hb5; clear hb5
      have hbk := back8 xs wc
      have hxw : Has (Lib.bytesWorld wc 5 (str8 xs)) w.heap.size 33 #[.int .i64 x0, .int .i64 x1] := HX5.out.under (below_back8 xs wc) HX5.out.lt
      have HX6 := Lib.hid hxw; clear hxw
      have HB6 := Lib.hid (HB5.out.trans ((below_back8 xs wc).mono HB5.out.size))
      go_wp2_with fail
      refine (read_any _ (grownCap wc xs.length 0 5) xs _ (at8_back8 xs HXB.out wc) (by omega) HXB.out).mono ?_
      rintro e w7 ⟨gr, rfl, hgr, hr7, hb7⟩
      have hx7 : Has w7 w.heap.size 33 #[.int .i64 x0, .int .i64 x1] := HX6.out.under hb7 HX6.out.lt
      have HR7 := Lib.hid hr7; clear hr7
      have HX7 := Lib.hid hx7; clear hx7
      have HB7 := Lib.hid (HB6.out.trans (hb7.mono HB6.out.size)); clear hb7
      have HG := Lib.hid (Nat.le_trans HB6.out.size hgr); clear hgr
      clear hbk HX6 HB6 HX5 HB5
      go_wp2_with fail
      refine (get_any gr xs 0 5 w7 HR7.out).mono ?_
      rintro e w8 ⟨rfl, hr8, hg8⟩
      obtain ⟨q, hq⟩ : ∃ q, q = gotP xs 0 5 := ⟨_, rfl⟩
      rw [← hq] at hr8
      have hqle : q ≤ 8 * xs.length := by rw [hq]; exact (gotP_le (by omega)).2
      clear hq
      have HR8 := Lib.hid hr8; clear hr8
      have hne8 : w.heap.size ≠ gr := by
        obtain ⟨_, _, hb, _⟩ := HR7.out
        exact HX7.out.other hb (by decide)
      have HN8 := Lib.hid hne8; clear hne8
      have HX8 := Lib.hid (HX7.out.grow hg8 (by have := HN8.out; simpa using this))
      have HB8 := Lib.hid (below_only HB7.out hg8 HB7.out.size HG.out); clear hg8 HR7 HX7 HB7
      go_wp2_with fail
      refine (left_any gr xs q _ HR8.out).mono ?_
      rintro e w9 ⟨rfl, n9, rfl⟩
      have hd0 : (w8.drewN n9).cell? ⟨w.heap.size, 0, none⟩ = some (.int .i64 x0) := by rw [(HX8.out.draws n9).cell]; rfl
      go_wp2_with fail
      by_cases hok : 1 ≤ x0 ∧ x0 ≤ 32 ∧ q + x0.toNat ≤ 8 * xs.length
      · have c9 := get_any gr xs q x0 _ (isR_draws HR8.out n9)
        obtain ⟨e1, e2, e3⟩ := got_yes hok.1 hok.2.1 hok.2.2
        rw [e1, e3] at c9
        clear e1 e2 e3
        refine c9.mono ?_
        clear c9
        rintro e wA ⟨rfl, hrA, hgA⟩
        have HRA := Lib.hid hrA; clear hrA
        have hdA : wA.cell? ⟨w.heap.size, 0, none⟩ = some (.int .i64 x0) := by rw [((HX8.out.draws n9).grow hgA (by have := HN8.out; simpa using this)).cell]; rfl
        have HBA := Lib.hid (below_only (below_draws HB8.out n9) hgA HB8.out.size HG.out); clear hgA hd0 HR8 HB8 HX8
        have hsub : IntKind.i64.wrap (((8 * xs.length - q : Nat) : Int) - x0) = ((8 * xs.length - (q + x0.toNat) : Nat) : Int) := by
          rw [IntWalk.i64_in _ (by omega)]; omega
        clear hok
        go_wp2_with fail
        go_quiet ((go_at_call 20; exact Calls.quiet_of (left_any gr xs (q + x0.toNat) _ (isR_draws HRA.out _))))
        go_wp2
        go_ret
        exact ⟨rfl, below_draws HBA.out nq⟩
      · have c9 := get_any gr xs q x0 _ (isR_draws HR8.out n9)
        have hE : (gotE xs q x0 = 10 ∨ gotE xs q x0 = 1) ∧ gotN xs q x0 = 0 ∧ gotP xs q x0 = q := by
          by_cases hw : 1 ≤ x0 ∧ x0 ≤ 32
          · obtain ⟨e1, e2, e3⟩ := got_short (xs := xs) (p := q) (k := x0) hw.1 hw.2 (by omega)
            exact ⟨.inl e1, e2, e3⟩
          · obtain ⟨e1, e2, e3⟩ := got_wide (xs := xs) (p := q) (k := x0) (by omega)
            exact ⟨.inr e1, e2, e3⟩
        obtain ⟨hE, hN, hP⟩ := hE
        rw [hN, hP] at c9
        clear hN hP hok
        rcases hE with hE | hE
        all_goals
          rw [hE] at c9
          clear hE
          refine c9.mono ?_
          clear c9
          rintro e wA ⟨rfl, hrA, hgA⟩
          have HRA := Lib.hid hrA; clear hrA
          have hdA : wA.cell? ⟨w.heap.size, 0, none⟩ = some (.int .i64 x0) := by rw [((HX8.out.draws n9).grow hgA (by have := HN8.out; simpa using this)).cell]; rfl
          have HBA := Lib.hid (below_only (below_draws HB8.out n9) hgA HB8.out.size HG.out); clear hgA hd0 HR8 HB8 HX8
          go_wp2_with fail
          go_quiet ((go_at_call 20; exact Calls.quiet_of (left_any gr xs q _ (isR_draws HRA.out _))))
          go_wp2
          go_ret
          exact ⟨rfl, below_draws HBA.out nq⟩

theorem bitsRefuses_walk (A : Option Addr) (n c : Nat) (l : List (Int × Int)) (x0 x1 : Int) (w : World) (h : InItems w A n l) (_h1 : (Lit.int .i64 x0).wf = true) (_h2 : (Lit.int .i64 x1).wf = true) :
    Calls Try.prog 7 #[.slice A n c, .agg #[.int .i64 x0, .int .i64 x1]] w fun e w' => e = .returned (.bool true) ∧ Below w.heap.size w w' := by
  by_cases hin : n ≤ 400
  · exact bitsRefuses_in A n c l x0 x1 w h hin
  · exact bitsRefuses_out A n c x0 x1 w (by omega)
end Go.Proofs.Ythaonojcfmnjpaa
