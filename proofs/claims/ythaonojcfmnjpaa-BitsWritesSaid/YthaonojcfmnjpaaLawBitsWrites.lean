/-
  BitsWrites: a writer answers any puts, and has the bits, that the document says; what it hands out is its owner's.
-/
import Derived.Test.YthaonojcfmnjpaaLawItems
import Derived.Test.YthaonojcfmnjpaaRef01
import Derived.Deep.DeepCutAuto
import Derived.Deep.LoopGhost
import Derived.Deep.RegionWith
namespace Go.Proofs.Ythaonojcfmnjpaa
open Go.RowKit Go.WideShapes
open BitsM

theorem wcells_nobool (bs : List Bool) : ∀ v ∈ wcells bs, ∀ b, v ≠ .bool b := by
  intro v hv b e
  subst e
  simp [wcells] at hv
theorem At8.of_own {w : World} {base : Nat} {e : TypeId} {A : Option Addr} {m c : Nat} {xs : List Nat} (h : w.ownsRow base e 1 (.slice A m c) m (u8s xs)) : At8 w A xs := by
  intro hpos
  have hs := Sl.of_own h
  have hl := hs.1
  rw [u8s_length] at hl
  cases A with
  | none => have := (hs.2.1 rfl).1; omega
  | some ad => exact ⟨ad, rfl, fun j v hv => hs.2.2 ad rfl j v hv⟩

set_option maxHeartbeats 1000000 in
theorem bitsWrites_out (A : Option Addr) (n c : Nat) (w : World) (h : 400 < n) :
    Calls Try.prog 3 #[.slice A n c] w fun e w' => e = .returned (.bool true) ∧ Below w.heap.size w w' := by
  have h1 : 400 < (n : Int) := by omega
  go_enter Try.func3, Try.ntmps3
  go_wp2_with (first | (go_at_call 10; refine (awake_any _).mono ?_; rintro e w1 ⟨rfl, hb1⟩))
  go_ret
  exact ⟨rfl, hb1⟩

set_option maxRecDepth 100000 in
set_option maxHeartbeats 2000000 in
theorem bitsWrites_in (A : Option Addr) (n c : Nat) (l : List (Int × Int)) (w : World) (hl : InItems w A n l) (hn : n ≤ 400) :
    Calls Try.prog 3 #[.slice A n c] w fun e w' => e = .returned (.bool true) ∧ Below w.heap.size w w' := by
  have h3 : ¬ 400 < (n : Int) := by omega
  have HI := Lib.hid hl; clear hl
  go_enter Try.func3, Try.ntmps3
  go_wp2_with (first
    | (go_at_call 10; refine (awake_any _).mono ?_; rintro e w1 ⟨rfl, hb1⟩)
    | (with_reducible refine wpList_zeroed (o := ⟨some 23, _, _, _, _, _⟩) rfl 27 rfl (wcells []) built_writer ?_))
  have HB1 := Lib.hid hb1; clear hb1
  go_loopg [5, 6] n (fun kk v i wr => ∃ (j : Nat) (A2 : Option Addr) (c2 : Nat), j ≤ n ∧ n - j ≤ kk ∧ i = .int .i64 j ∧ v = .slice A2 (puts l j).length c2 ∧ SlB wr A2 (puts l j).length c2 (puts l j) ∧ IsW wr w1.heap.size (puts l j) ∧ Below w.heap.size w wr)
  case atStart => exact ⟨0, none, 0, by omega, by omega, rfl, rfl, slB_nil _, isW_new w1, HB1.out.alloc HB1.out.size _⟩
  case round =>
    obtain ⟨j, A2, c2, hj, hk, rfl, rfl, hs, hw, hb⟩ := hrel
    by_cases hlt : j < n
    · obtain ⟨b, off, rfl, hc0, hc1⟩ := items_at HI.out hb hlt
      obtain ⟨y0, hy0⟩ : ∃ x, x = (l.getD j (0, 0)).1 := ⟨_, rfl⟩
      obtain ⟨y1, hy1⟩ : ∃ x, x = (l.getD j (0, 0)).2 := ⟨_, rfl⟩
      have hps := puts_succ l j (by have := HI.out.1; omega)
      rw [← hy0] at hc0
      rw [← hy1] at hc1
      rw [← hy0, ← hy1] at hps
      obtain ⟨bs, hbs⟩ : ∃ bs, bs = puts l j := ⟨_, rfl⟩
      rw [← hbs] at hs hw hps
      rw [← hbs]
      obtain ⟨E, hE⟩ : ∃ E, E = putE bs y0 y1 := ⟨_, rfl⟩
      have HE := Lib.hid hE; clear hE
      have HY0 := Lib.hid hy0; clear hy0
      have HY1 := Lib.hid hy1; clear hy1
      have HPS := Lib.hid hps; clear hps hbs
      have HW := Lib.hid hw; clear hw
      have HB := Lib.hid hb; clear hb
      have HS := Lib.hid hs; clear hs
      go_upto_region 9 with fail
      go_cut [7, 8] (fun s7 s8 wc => ∃ (A4 : Option Addr) (c4 : Nat), s7 = .slice A4 (putB bs y0 y1).length c4 ∧ s8 = .int .i64 E ∧ SlB wc A4 (putB bs y0 y1).length c4 (putB bs y0 y1) ∧ IsW wc w1.heap.size bs ∧ Below w.heap.size w wc)
      case first =>
        go_region_with (go_at_call 11; refine (refPut_any A2 bs.length c2 bs y0 y1 _ (SlB.under HS.out (below_draws (Below.refl _ _) 1)) HW.out.1).mono ?_; rintro e w4 ⟨A4, c4, rfl, hs4, hb4⟩)
        all_goals
          go_wp2_with fail
          go_meet
          exact ⟨A4, c4, rfl, by rw [HE.out], hs4, IsW.under (HW.out.draws 1) hb4 (Nat.le_refl _), (below_draws HB.out 1).trans (hb4.mono HB.out.size)⟩
      case rest =>
      obtain ⟨A4, c4, rfl, rfl, hs4, hw4, hb4⟩ := hcut
      have HS4 := Lib.hid hs4; clear hs4
      have HW4 := Lib.hid hw4; clear hw4
      have HB4 := Lib.hid hb4; clear hb4
      clear HS HW HB hc0 hc1
      obtain ⟨b', off', e', hd0, hd1⟩ := items_at HI.out HB4.out hlt
      simp only [Option.some.injEq, Addr.mk.injEq, and_true] at e'
      obtain ⟨rfl, rfl⟩ := e'
      rw [← HY0.out] at hd0
      rw [← HY1.out] at hd1
      go_wp2_with fail
      go_still_tail 11, (by kernel_rfl)
      change wpList _ _ _ _ _ wc.drew
      have c6 := put_any w1.heap.size bs y0 y1 wc.drew (HW4.out.draws 1)
      rw [← HE.out] at c6
      go_wp2_with fail
      refine c6.mono ?_
      clear c6
      rintro e w5 ⟨rfl, hw5, hg5⟩
      have HS5 := Lib.hid (SlB.grow (w := wc.drew) HS4.out hg5 HW4.out.2 (wcells_nobool _))
      have HB5 := Lib.hid (below_only (below_draws HB4.out 1) hg5 HB4.out.size HB1.out.size)
      have HW5 := Lib.hid hw5
      clear hw5 hg5 HS4 HW4 HB4 hd0 hd1
      go_wp2_with fail
      go_wp2_with (go_at_call 13; refine (len_any _ _ _ HW5.out).mono ?_; rintro e w6 ⟨rfl, rfl⟩)
      go_roundg (gk - 1)
      case measure => omega
      case rel => exact ⟨j + 1, A4, c4, by omega, by omega, by go_num, by rw [HPS.out], by rw [HPS.out]; exact HS5.out, by rw [HPS.out]; exact HW5.out, HB5.out⟩
    · obtain rfl : j = n := by omega
      clear hlt
      obtain ⟨bs, hbs⟩ : ∃ bs, bs = puts l j := ⟨_, rfl⟩
      rw [← hbs] at hs hw
      rw [← hbs]
      clear hbs
      obtain ⟨xs, hxs⟩ : ∃ xs, xs = outBytes bs := ⟨_, rfl⟩
      have hxl : xs.length = (bs.length + 7) / 8 := by rw [hxs, outBytes_length]
      have hb256 : ∀ x ∈ xs, x < 256 := by
        intro x hx
        rw [hxs] at hx
        simp only [outBytes, List.mem_map] at hx
        obtain ⟨i, _, rfl⟩ := hx
        exact byteAt_lt _ _
      have hx1023 : xs.length ≤ 1023 := by have := hw.1; omega
      have hm := hw.1
      have HX := Lib.hid hxs; clear hxs
      have HXL := Lib.hid hxl; clear hxl
      have HX256 := Lib.hid hb256; clear hb256
      have HW := Lib.hid hw; clear hw
      have HB := Lib.hid hb; clear hb
      have HS := Lib.hid hs; clear hs
      go_wp2_with fail
      have c3 := bytes_any _ bs _ HW.out
      obtain ⟨gb, hgb⟩ : ∃ gb, gb = wr.heap.size := ⟨_, rfl⟩
      rw [← HX.out, ← hgb] at c3
      have hgle : wr.heap.size ≤ gb := by omega
      have hgl2 : w.heap.size ≤ gb := by rw [hgb]; exact HB.out.size
      have hgne : w1.heap.size ≠ gb := by have := HW.out.2.lt; omega
      clear hgb
      refine c3.mono ?_
      clear c3
      rintro e w3 ⟨rfl, hh3, hb3⟩
      have hcv : (convert 36 9 (.slice (some ⟨gb, 0, none⟩) xs.length xs.length)).run Try.prog w3 = .ok (.string (str8 xs)) w3 := conv8 _ _ xs w3 (At8.of_has hh3)
      have HW3 := Lib.hid (HW.out.under hb3 hgle)
      have HS3 := Lib.hid (HS.out.under (hb3.mono hgle))
      have HH3 := Lib.hid hh3
      have HB3 := Lib.hid (HB.out.trans (hb3.mono hgl2))
      have HNE := Lib.hid hgne; clear hgne
      clear hh3 hb3 HW HS HB
      clear hcv
      go_wp2_with fail
      refine (refBytes_any A2 bs.length c2 bs w3 HS3.out hm).mono ?_
      rintro e w4 ⟨A4, c4, rfl, ho4, hb4⟩
      have hcw : (convert 36 9 (.slice A4 ((bs.length + 7) / 8) c4)).run Try.prog w4 = .ok (.string (str8 xs)) w4 := by
        have h := conv8 A4 c4 xs w4 (by rw [HX.out]; exact At8.of_own ho4)
        rw [HXL.out] at h
        exact h
      have hcv : (convert 36 9 (.slice (some ⟨gb, 0, none⟩) xs.length xs.length)).run Try.prog w4 = .ok (.string (str8 xs)) w4 := conv8 _ _ xs w4 (At8.of_has (HH3.out.under hb4 HH3.out.lt))
      have HW4 := Lib.hid (HW3.out.under hb4 (Nat.le_refl _))
      have HH4 := Lib.hid (HH3.out.under hb4 HH3.out.lt)
      have HB4 := Lib.hid (HB3.out.trans (hb4.mono HB3.out.size))
      clear ho4 hb4 HW3 HS3 HH3 HB3
      go_wp2_with fail
      clear hcw hcv
      go_loopg [13] xs.length (fun k i wr => ∃ (t : Nat) (ys : List Nat), t ≤ xs.length ∧ xs.length - t ≤ k ∧ i = .int .i64 t ∧ ys.length = xs.length ∧ (∀ y ∈ ys, y < 256) ∧ Has wr gb 5 (u8s ys).toArray ∧ IsW wr w1.heap.size bs ∧ Below w.heap.size w wr)
      case atStart => exact ⟨0, xs, by omega, by omega, rfl, rfl, HX256.out, HH4.out, HW4.out, HB4.out⟩
      case round =>
        obtain ⟨t, ys, ht, htk, rfl, hyl, hys, hh, hw, hb⟩ := hrel
        clear HW4 HH4 HB4
        by_cases hlt : t < xs.length
        · obtain ⟨y, hy⟩ : ∃ y, y = ys.getD t 0 := ⟨_, rfl⟩
          have hty : t < ys.length := by omega
          have hyb : y < 256 := by rw [hy, List.getD_eq_getElem?_getD, List.getElem?_eq_getElem hty]; exact hys _ (List.getElem_mem _)
          have hcy : wr.cell? ⟨gb, t, none⟩ = some (.int .u8 (y : Int)) := by
            rw [hh.cell, hy]
            simp [u8s, hty]
          have hfz := hh.thaw t
          have HYS := Lib.hid hys; clear hys
          have HYL := Lib.hid hyl; clear hyl hy hty
          have HH := Lib.hid hh; clear hh
          have HW := Lib.hid hw; clear hw
          have HB := Lib.hid hb; clear hb
          go_wp2
          go_roundg (gk - 1)
          case measure => omega
          case rel =>
            refine ⟨t + 1, ys.set t ((y + 1) % 256), by omega, by omega, by go_num, by rw [List.length_set, HYL.out], ?_, ?_, ?_, HB.out.setCell hgl2 _⟩
            · intro z hz
              rcases List.mem_or_eq_of_mem_set hz with h | h
              · exact HYS.out z h
              · omega
            · have h := HH.out.stored t (.int .u8 (((y + 1) % 256 : Nat) : Int))
              have e : (u8s ys).toArray.setIfInBounds t (.int .u8 (((y + 1) % 256 : Nat) : Int)) = (u8s (ys.set t ((y + 1) % 256))).toArray := by
                simp [u8s, List.map_set]
              rw [e] at h
              exact h
            · exact ⟨HW.out.1, HW.out.2.apart (p := ⟨gb, t, none⟩) HNE.out _⟩
        · obtain rfl : t = xs.length := by omega
          have HW := Lib.hid hw; clear hw
          have HB := Lib.hid hb; clear hb
          clear hys hh hyl
          have c6 := bytes_any _ bs _ HW.out
          rw [← HX.out] at c6
          go_wp2_with fail
          refine c6.mono ?_
          clear c6
          rintro e w6 ⟨rfl, hh6, hb6⟩
          have hcv : (convert 36 9 (.slice (some ⟨wr.heap.size, 0, none⟩) xs.length xs.length)).run Try.prog w6 = .ok (.string (str8 xs)) w6 := conv8 _ _ xs w6 (At8.of_has hh6)
          have HB6 := Lib.hid (HB.out.trans (hb6.mono HB.out.size))
          clear hh6 hb6
          go_wp2
          go_ret
          exact ⟨rfl, HB6.out⟩

theorem bitsWrites_walk (A : Option Addr) (n c : Nat) (l : List (Int × Int)) (w : World) (h : InItems w A n l) :
    Calls Try.prog 3 #[.slice A n c] w fun e w' => e = .returned (.bool true) ∧ Below w.heap.size w w' := by
  by_cases hin : n ≤ 400
  · exact bitsWrites_in A n c l w h hin
  · exact bitsWrites_out A n c w (by omega)
end Go.Proofs.Ythaonojcfmnjpaa
