/-
  linesideref13, by contract: After.
-/
import Derived.Test.YtfchmjldhefmkaaTpRefB

import Derived.BigQuiet

import Derived.IntWalk

namespace Go.Proofs.Ytfchmjldhefmkaa

open Go.RowKit

open Go.Great

theorem info_step14 : (Try.prog.info? 45).map (fun i => (i.zero, i.size, i.bytes)) = some (some (.agg #[.int .i64 0, .bool false]), 2, 16) := by kernel_rfl
/-- A row of steps of the call's own. -/
def OwS14 (base : Nat) (w : World) (A : Option Addr) (n c : Nat) (l : List St3) : Prop := w.ownsRow base 45 2 (.slice A n c) n (l.flatMap stC) ∧ l.length = n
def PushS14 (base : Nat) (W : World) (g : Nat) (A : Option Addr) (n c : Nat) (l : List St3) (x : St3) : Prop :=
  Hid ((stC x).length = 1 * 2) ∧ Hid (W.ownsRow base 45 2 (.slice A n c) n (l.flatMap stC)) ∧ Hid (∀ j u, (stC x)[j]? = some u → W.cell? ((⟨g, 0, none⟩ : Addr).add j) = some u) ∧ Hid (∀ u ∈ stC x, u.oneCell' = true) ∧ Hid (n + 1 ≤ maxLen ∧ (n + 1) * 16 ≤ 140737488355328 ∧ base ≤ W.heap.size)
theorem pushS14 {base n c : Nat} {w : World} {A : Option Addr} {l : List St3} (x : St3) (ho : OwS14 base w A n c l) (hb : base ≤ w.heap.size) (hn : n ≤ 1048576) : PushS14 base (w.alloc (.cells (stA13 x) 45)) w.heap.size A n c l x := by
  refine ⟨Lib.hid rfl, Lib.hid (ho.1.alloc _), Lib.hid fun j u hu => ?_, Lib.hid fun u hu => ?_, Lib.hid ⟨by unfold maxLen; omega, by omega, by simp; omega⟩⟩
  · rw [WideShapes.add_plain, (Has.made w 45 _).cell, Nat.zero_add]
    simpa [stC, stA13] using hu
  · simp only [stC, List.mem_cons, List.not_mem_nil, or_false] at hu
    rcases hu with rfl | rfl <;> rfl
theorem OwS14.snoc {base n c : Nat} {W : World} {A : Option Addr} {l : List St3} {x : St3} (hl : l.length = n) (ho : W.ownsRow base 45 2 (.slice A (n + 1) c) (n + 1) (l.flatMap stC ++ stC x)) : OwS14 base W A (n + 1) c (l ++ [x]) :=
  ⟨by rw [List.flatMap_append]; simpa using ho, by simp [hl]⟩
theorem OwS14.under {base n c : Nat} {W W' : World} {A : Option Addr} {l : List St3} (h : OwS14 base W A n c l) (hb : Below W.heap.size W W') : OwS14 base W' A n c l := ⟨own_under h.1 hb (Nat.le_refl _), h.2⟩
theorem OwS14.ne {base n c : Nat} {W : World} {A : Option Addr} {l : List St3} (h : OwS14 base W A n c l) {g : Nat} (hg : W.heap.size ≤ g) : (Value.slice A n c).ownBlock ≠ some g := fun e => by
  have := (h.1.lt g e).2
  omega
theorem OwS14.low {base n c : Nat} {W : World} {A : Option Addr} {l : List St3} (h : OwS14 base W A n c l) {ad : Addr} (ha : A = some ad) : base ≤ ad.block := by
  rcases h.1.2 with ⟨e1, _⟩ | ⟨g, cap, cur, e1, hb, _⟩
  · injection e1 with e1
    rw [ha] at e1
    cases e1
  · injection e1 with e1
    rw [ha] at e1
    injection e1 with e1
    rw [e1]
    exact hb
def preL (t : Tp3) (s : St3) (i : Nat) : List St3 := (List.range i).flatMap (stepsAt t s)
theorem pre_succ (t : Tp3) (s : St3) (i : Nat) : preL t s (i + 1) = preL t s i ++ stepsAt t s i := by
  unfold preL
  rw [List.range_succ, List.flatMap_append]
  simp
theorem pre_len (t : Tp3) (s : St3) (i : Nat) : (preL t s i).length ≤ 2 * i := by
  induction i with
  | zero => simp [preL]
  | succ i ih =>
    rw [pre_succ, List.length_append]
    have : (stepsAt t s i).length ≤ 2 := by
      unfold stepsAt
      rw [List.length_append]
      split <;> split <;> simp
    omega

set_option maxRecDepth 100000 in
set_option maxHeartbeats 8000000 in
theorem rafter_any (t : Tp3) (a : TpA) (s : St3) (w : World) (ht : TopR w t a) (hn1 : t.edges.length ≤ 100) (hn2 : t.joints.length ≤ 100) :
    Calls Try.prog 31 #[.agg (tpC t a), .agg (stA13 s)] w fun e w' => ∃ A c, e = .returned (.slice A (afterL t s).length c) ∧ SlO stC 2 w' A (afterL t s).length c (afterL t s) ∧ (∀ ad, A = some ad → w.heap.size ≤ ad.block) ∧ Below w.heap.size w w' := by
  obtain ⟨wa, hwa⟩ : ∃ wa, (w.alloc (.cells (tpC t a) 27)).alloc (.cells (stA13 s) 45) = wa := ⟨_, rfl⟩
  have hbwa : Below w.heap.size w wa := by rw [← hwa]; exact ((Below.refl _ _).alloc (Nat.le_refl _) _).alloc (by simp) _
  have h0 : Has wa (w.heap.size) 27 (tpC t a) := by rw [← hwa]; exact ((Has.made _ _ _).beside _)
  have h1 : Has wa (w.heap.size + 1) 45 (stA13 s) := by rw [← hwa]; exact (has_at11 (by simp))
  have HWA := Lib.hid hwa; have HBWA := Lib.hid hbwa
  have HN2 := Lib.hid hn2
  have H0 := Lib.hid (fun W (hW : Below wa.heap.size wa W) => And.intro (h0.under hW h0.lt) (h1.under hW h1.lt))
  have HT := Lib.hid (fun W (hW : Below w.heap.size w W) => ht.under hW)
  have HBA := Lib.hid (fun W (hW : Below wa.heap.size wa W) => hbwa.trans (hW.mono hbwa.size))
  have d0 : wa.cell? ⟨w.heap.size + 1, 0, none⟩ = some (.int .i64 s.edge) := h1.cell 0
  have HS0 := Lib.hid hbwa.size
  clear hwa hbwa h0 h1 ht hn2
  obtain ⟨n, hnn⟩ : ∃ n, t.edges.length = n := ⟨_, rfl⟩
  have HN := Lib.hid hnn
  rw [hnn] at hn1
  clear hnn
  obtain ⟨b, hb⟩ : ∃ b, edgeB t s.edge = b := ⟨_, rfl⟩
  have HB := Lib.hid hb
  clear hb
  go_enter Try.func31, Try.ntmps31
  go_upto_region 1 with fail
  rw [HWA.out]
  clear HWA
  go_wp2_with (with_reducible refine wpList_load_row (o := ⟨some 12, _, _, _, _, _⟩) rfl 27 _ rfl (w.heap.size) rfl 27 (tpC t a) (0, 0) _ ((H0.out wa (Below.refl _ _)).1).raw11 Try.underlying27 rfl (by kernel_rfl) ?_)
  refine (redge_any t a s.edge wa).mono ?_
  rw [HB.out]
  rintro e w1 ⟨rfl, hb1⟩
  have HB1 := Lib.hid hb1
  clear d0 HBWA
  cases b with
  | false =>
    clear hb1
    go_wp2
    go_ret
    have hA : afterL t s = [] := by unfold afterL; rw [HB.out]; rfl
    rw [hA]
    exact ⟨none, 0, rfl, SlO.nil _ _ _, (fun _ h => by cases h), HBA.out _ HB1.out⟩
  | true =>
    have hA : afterL t s = preL t s n := by unfold afterL preL; rw [HB.out, HN.out]; rfl
    have HA := Lib.hid hA
    clear hA HB hb1
    go_upto_region 5 with fail
    go_wp2
    go_loopg [6, 7] n (fun kk v6 v7 wl => ∃ (i k : Nat) (A2 : Option Addr) (c2 : Nat), i ≤ n ∧ n - i ≤ kk ∧ v7 = .int .i64 i ∧ v6 = .slice A2 k c2 ∧ Hid (OwS14 wa.heap.size wl A2 k c2 (preL t s i)) ∧ Hid (Below wa.heap.size wa wl))
    case atStart => exact ⟨0, 0, none, 0, by omega, by omega, rfl, rfl, Lib.hid ⟨World.ownsRow_nil _ _ _ _, rfl⟩, HB1⟩
    case round =>
      obtain ⟨i, k, A2, c2, hi, hik, rfl, rfl, HO, HW⟩ := hrel
      have c0 : wr.cell? ⟨w.heap.size, 0, none⟩ = some (.slice a.ae n a.ce) := by have h_ := (H0.out wr HW.out).1.cell 0; rw [← HN.out]; exact h_
      by_cases hlt : i < n
      rotate_left
      · obtain rfl : i = n := by omega
        have x1 : ¬ (i : Int) < i := by omega
        clear hi hik hlt hn1
        go_wp2
        go_ret
        rw [HA.out]
        have hl := HO.out.2
        rw [hl]
        exact ⟨A2, c2, rfl, ⟨hl, Sl.of_own HO.out.1⟩, (fun ad h => Nat.le_trans HS0.out (HO.out.low h)), HBA.out _ HW.out⟩
      have x1 : (i : Int) < n := by omega
      have HK := Lib.hid (show k ≤ 200 from by have h1_ := HO.out.2; have h2_ := pre_len t s i; omega)
      have hm8 : Has (wr.alloc (.cells #[.int .i64 0, .bool false] 45)) wr.heap.size 45 #[.int .i64 0, .bool false] := Has.made _ _ _
      have HM8 := Lib.hid hm8
      obtain ⟨w3, hw3⟩ : ∃ w3, (wr.alloc (.cells #[.int .i64 0, .bool false] 45)).setRow wr.heap.size #[.int .i64 (i : Int), .bool false] = w3 := ⟨_, rfl⟩
      have hb3 : Below wr.heap.size wr w3 := by rw [← hw3]; exact below_row (g := wr.heap.size) ((Below.refl _ _).alloc (Nat.le_refl _) _) (Nat.le_refl _) _
      have HX8 := Lib.hid (show Has w3 wr.heap.size 45 #[.int .i64 (i : Int), .bool false] from by rw [← hw3]; exact has_row11 HM8.out _)
      have HW3 := Lib.hid hw3
      have hm9 : Has (w3.alloc (.cells #[.int .i64 0, .bool false] 45)) w3.heap.size 45 #[.int .i64 0, .bool false] := Has.made _ _ _
      have HM9 := Lib.hid hm9
      obtain ⟨w5, hw5⟩ : ∃ w5, (w3.alloc (.cells #[.int .i64 0, .bool false] 45)).setRow w3.heap.size #[.int .i64 (i : Int), .bool true] = w5 := ⟨_, rfl⟩
      have hb5 : Below w3.heap.size w3 w5 := by rw [← hw5]; exact below_row (g := w3.heap.size) ((Below.refl _ _).alloc (Nat.le_refl _) _) (Nat.le_refl _) _
      have HX9 := Lib.hid (show Has w5 w3.heap.size 45 #[.int .i64 (i : Int), .bool true] from by rw [← hw5]; exact has_row11 HM9.out _)
      have HW5 := Lib.hid hw5
      have HW39 := Lib.hid hb3.size
      have HX8' := Lib.hid (HX8.out.under hb5 HX8.out.lt)
      have HB35 := Lib.hid (hb3.trans (hb5.mono hb3.size))
      clear hw3 hw5 hm8 hm9 hb3 hb5
      go_upto_region 9 with (with_reducible refine wpList_store_rowTo (o := ⟨none, _, _, _, _, _⟩) rfl 45 _ _ rfl rfl (wr.heap.size) #[.int .i64 (i : Int), .bool false] rfl rfl 45 _ (HM8.out).raw11 (by kernel_rfl) (by kernel_rfl) (by kernel_rfl) ?_)
      rw [HW3.out]
      clear HW3 HM8 x1 c0
      go_upto_region 10 with (with_reducible refine wpList_store_rowTo (o := ⟨none, _, _, _, _, _⟩) rfl 45 _ _ rfl rfl (w3.heap.size) #[.int .i64 (i : Int), .bool true] rfl rfl 45 _ (HM9.out).raw11 (by kernel_rfl) (by kernel_rfl) (by kernel_rfl) ?_)
      rw [HW5.out]
      clear HW5 HM9 HX8
      skip
      obtain ⟨g8, hg8⟩ : ∃ g, wr.heap.size = g := ⟨_, rfl⟩
      obtain ⟨g9, hg9⟩ : ∃ g, w3.heap.size = g := ⟨_, rfl⟩
      have HG8 := Lib.hid hg8
      rw [hg8] at HX8'
      rw [hg9] at HX9
      simp only [hg8, hg9]
      have HB5 := Lib.hid (HW.out.trans (HB35.out.mono HW.out.size))
      have HO5 := Lib.hid (HO.out.under HB35.out)
      have HNE8 := Lib.hid (HO.out.ne (g := g8) (by omega))
      have HNE9 := Lib.hid (HO.out.ne (g := g9) (by have h_ := HW39.out; omega))
      clear hg8 hg9 HO HW HB35
      go_wp2_with (first | (with_reducible refine wpList_load_row (o := ⟨some 29, _, _, _, _, _⟩) rfl 27 _ rfl (w.heap.size) rfl 27 (tpC t a) (0, 0) _ ((H0.out w5 HB5.out).1).raw11 Try.underlying27 rfl (by kernel_rfl) ?_) | (with_reducible refine wpList_load_row (o := ⟨some 30, _, _, _, _, _⟩) rfl 45 _ rfl (w.heap.size + 1) rfl 45 (stA13 s) (0, 0) _ ((H0.out w5 HB5.out).2).raw11 Try.underlying45 rfl (by kernel_rfl) ?_) | (with_reducible refine wpList_load_row (o := ⟨some 31, _, _, _, _, _⟩) rfl 45 _ rfl (g8) rfl 45 #[.int .i64 (i : Int), .bool false] (0, 0) _ (HX8'.out).raw11 Try.underlying45 rfl (by kernel_rfl) ?_))
      refine (rmay_any t a s ⟨(i : Int), false⟩ w5 (HT.out w5 (HBA.out w5 HB5.out)).j (by have := HN2.out; omega)).mono ?_
      rintro e w6 ⟨rfl, hb⟩
      have HO6 := Lib.hid (HO5.out.under hb)
      have HB6 := Lib.hid (HB5.out.trans (hb.mono HB5.out.size))
      have HX8' := Lib.hid (HX8'.out.under hb HX8'.out.lt)
      have HX9 := Lib.hid (HX9.out.under hb HX9.out.lt)
      clear hb
      go_wp2_with (first | (with_reducible refine wpList_load_row (o := ⟨some 33, _, _, _, _, _⟩) rfl 27 _ rfl (w.heap.size) rfl 27 (tpC t a) (0, 0) _ ((H0.out w6 HB6.out).1).raw11 Try.underlying27 rfl (by kernel_rfl) ?_) | (with_reducible refine wpList_load_row (o := ⟨some 34, _, _, _, _, _⟩) rfl 45 _ rfl (w.heap.size + 1) rfl 45 (stA13 s) (0, 0) _ ((H0.out w6 HB6.out).2).raw11 Try.underlying45 rfl (by kernel_rfl) ?_) | (with_reducible refine wpList_load_row (o := ⟨some 35, _, _, _, _, _⟩) rfl 45 _ rfl (g9) rfl 45 #[.int .i64 (i : Int), .bool true] (0, 0) _ (HX9.out).raw11 Try.underlying45 rfl (by kernel_rfl) ?_))
      refine (rmay_any t a s ⟨(i : Int), true⟩ w6 (HT.out w6 (HBA.out w6 HB6.out)).j (by have := HN2.out; omega)).mono ?_
      rintro e w7 ⟨rfl, hb⟩
      have HO7 := Lib.hid (HO6.out.under hb)
      have HB7 := Lib.hid (HB6.out.trans (hb.mono HB6.out.size))
      have HX8' := Lib.hid (HX8'.out.under hb HX8'.out.lt)
      have HX9 := Lib.hid (HX9.out.under hb HX9.out.lt)
      clear hb
      clear HO5 HO6 HB5 HB6
      obtain ⟨b1, hb1⟩ : ∃ b, mayT t s ⟨(i : Int), false⟩ = b := ⟨_, rfl⟩
      obtain ⟨b2, hb2⟩ : ∃ b, mayT t s ⟨(i : Int), true⟩ = b := ⟨_, rfl⟩
      have HST := Lib.hid (show stepsAt t s i = (if b1 = true then [⟨(i : Int), false⟩] else []) ++ (if b2 = true then [⟨(i : Int), true⟩] else []) from by rw [← hb1, ← hb2]; rfl)
      rw [hb1, hb2]
      clear hb1 hb2
      cases b1 with
      | false =>
        cases b2 with
        | false =>
          clear HX8' HX9
          go_wp2
          go_roundg (gk - 1)
          case measure => omega
          case rel =>
            refine ⟨i + 1, k, A2, c2, by omega, by omega, by go_num, rfl, ?_, HB7⟩
            have hL : preL t s (i + 1) = preL t s i := by rw [pre_succ, HST.out]; simp
            rw [hL]
            exact HO7
        | true =>
          have hpw := pushS14 ⟨(i : Int), true⟩ HO7.out (Nat.le_trans HB7.out.size (Nat.le_refl _)) (by have := HK.out; omega)
          unfold stA13 at hpw
          dsimp only at hpw
          obtain ⟨hN, hO, hC, h1, hBD⟩ := hpw
          have hbw : Below wa.heap.size wa (w7.alloc (.cells #[.int .i64 (i : Int), .bool true] 45)) := HB7.out.alloc HB7.out.size _
          have HBW := Lib.hid hbw
          have HLN := Lib.hid HO7.out.2
          go_upto_region 15 with fail
          clear hbw
          go_wp2_with (first | (with_reducible refine wpList_load_row (o := ⟨some 44, _, _, _, _, _⟩) rfl 45 _ rfl (g9) rfl 45 #[.int .i64 (i : Int), .bool true] (0, 0) _ (HX9.out).raw11 Try.underlying45 rfl (by kernel_rfl) ?_) | (with_reducible refine wpList_push (o := ⟨some 46, _, _, _, _, _⟩) rfl (.tmp 43) (.tmp 45) 39 rfl wa.heap.size 45 (.agg #[.int .i64 0, .bool false]) 2 16 Try.underlying39 info_step14 ?hz1 (by decide) A2 (k) c2 ((preL t s i).flatMap stC) ?hs1 hO ⟨w7.heap.size, 0, none⟩ 1 1 (stC ⟨(i : Int), true⟩) ?hx1 hN hC h1 hBD ?next1))
          all_goals try rfl
          case next1 =>
            intro A3 c3 w8 ho hg
            have HO8 := Lib.hid (OwS14.snoc HLN.out ho.out)
            have HB8 := Lib.hid (below_own HBW.out HBW.out.size hO.out (Nat.le_refl _) rfl hg.out)
            clear ho hg hN hO hC h1 hBD HBW HLN
            go_wp2
            go_roundg (gk - 1)
            case measure => omega
            case rel =>
              refine ⟨i + 1, k + 1, A3, c3, by omega, by omega, by go_num, rfl, ?_, HB8⟩
              have hL : preL t s (i + 1) = preL t s i ++ [⟨(i : Int), true⟩] := by rw [pre_succ, HST.out]; simp
              rw [hL]
              exact HO8
      | true =>
        cases b2 with
        | false =>
          have hpw := pushS14 ⟨(i : Int), false⟩ HO7.out (Nat.le_trans HB7.out.size (Nat.le_refl _)) (by have := HK.out; omega)
          unfold stA13 at hpw
          dsimp only at hpw
          obtain ⟨hN, hO, hC, h1, hBD⟩ := hpw
          have hbw : Below wa.heap.size wa (w7.alloc (.cells #[.int .i64 (i : Int), .bool false] 45)) := HB7.out.alloc HB7.out.size _
          have HBW := Lib.hid hbw
          have HLN := Lib.hid HO7.out.2
          clear hbw
          go_wp2_with (first | (with_reducible refine wpList_load_row (o := ⟨some 39, _, _, _, _, _⟩) rfl 45 _ rfl (g8) rfl 45 #[.int .i64 (i : Int), .bool false] (0, 0) _ (HX8'.out).raw11 Try.underlying45 rfl (by kernel_rfl) ?_) | (with_reducible refine wpList_push (o := ⟨some 41, _, _, _, _, _⟩) rfl (.tmp 38) (.tmp 40) 39 rfl wa.heap.size 45 (.agg #[.int .i64 0, .bool false]) 2 16 Try.underlying39 info_step14 ?hz2 (by decide) A2 (k) c2 ((preL t s i).flatMap stC) ?hs2 hO ⟨w7.heap.size, 0, none⟩ 1 1 (stC ⟨(i : Int), false⟩) ?hx2 hN hC h1 hBD ?next2))
          all_goals try rfl
          case next2 =>
            intro A3 c3 w8 ho hg
            have HO8 := Lib.hid (OwS14.snoc HLN.out ho.out)
            have HB8 := Lib.hid (below_own HBW.out HBW.out.size hO.out (Nat.le_refl _) rfl hg.out)
            clear ho hg hN hO hC h1 hBD HBW HLN
            go_wp2
            go_roundg (gk - 1)
            case measure => omega
            case rel =>
              refine ⟨i + 1, k + 1, A3, c3, by omega, by omega, by go_num, rfl, ?_, HB8⟩
              have hL : preL t s (i + 1) = preL t s i ++ [⟨(i : Int), false⟩] := by rw [pre_succ, HST.out]; simp
              rw [hL]
              exact HO8
        | true =>
          have hpw := pushS14 ⟨(i : Int), false⟩ HO7.out (Nat.le_trans HB7.out.size (Nat.le_refl _)) (by have := HK.out; omega)
          unfold stA13 at hpw
          dsimp only at hpw
          obtain ⟨hN, hO, hC, h1, hBD⟩ := hpw
          have hbw : Below wa.heap.size wa (w7.alloc (.cells #[.int .i64 (i : Int), .bool false] 45)) := HB7.out.alloc HB7.out.size _
          have HBW := Lib.hid hbw
          have HLN := Lib.hid HO7.out.2
          have HX9 := Lib.hid (HX9.out.beside (.cells #[.int .i64 (i : Int), .bool false] 45))
          clear hbw
          go_wp2_with (first | (with_reducible refine wpList_load_row (o := ⟨some 39, _, _, _, _, _⟩) rfl 45 _ rfl (g8) rfl 45 #[.int .i64 (i : Int), .bool false] (0, 0) _ (HX8'.out).raw11 Try.underlying45 rfl (by kernel_rfl) ?_) | (with_reducible refine wpList_push (o := ⟨some 41, _, _, _, _, _⟩) rfl (.tmp 38) (.tmp 40) 39 rfl wa.heap.size 45 (.agg #[.int .i64 0, .bool false]) 2 16 Try.underlying39 info_step14 ?hz3 (by decide) A2 (k) c2 ((preL t s i).flatMap stC) ?hs3 hO ⟨w7.heap.size, 0, none⟩ 1 1 (stC ⟨(i : Int), false⟩) ?hx3 hN hC h1 hBD ?next3))
          all_goals try rfl
          case next3 =>
            intro A3 c3 w8 ho hg
            have HO8 := Lib.hid (OwS14.snoc HLN.out ho.out)
            have HB8 := Lib.hid (below_own HBW.out HBW.out.size hO.out (Nat.le_refl _) rfl hg.out)
            have HX9 := Lib.hid (HX9.out.grow hg.out (fun e => HNE9.out e.symm))
            clear ho hg hN hO hC h1 hBD HBW HLN
            clear HX8'
            obtain ⟨k3, hk3⟩ : ∃ q, k + 1 = q := ⟨_, rfl⟩
            obtain ⟨L3, hL3⟩ : ∃ L, preL t s i ++ [⟨(i : Int), false⟩] = L := ⟨_, rfl⟩
            have HL3 := Lib.hid hL3
            have HK := Lib.hid (show k3 ≤ 201 by have := HK.out; omega)
            rw [hk3, hL3] at HO8
            simp only [hk3]
            clear hk3 hL3
            have hpw := pushS14 ⟨(i : Int), true⟩ HO8.out (Nat.le_trans HB8.out.size (Nat.le_refl _)) (by have := HK.out; omega)
            unfold stA13 at hpw
            dsimp only at hpw
            obtain ⟨hN, hO, hC, h1, hBD⟩ := hpw
            have hbw : Below wa.heap.size wa (w8.alloc (.cells #[.int .i64 (i : Int), .bool true] 45)) := HB8.out.alloc HB8.out.size _
            have HBW := Lib.hid hbw
            have HLN := Lib.hid HO8.out.2
            go_upto_region 15 with fail
            clear hbw
            go_wp2_with (first | (with_reducible refine wpList_load_row (o := ⟨some 44, _, _, _, _, _⟩) rfl 45 _ rfl (g9) rfl 45 #[.int .i64 (i : Int), .bool true] (0, 0) _ (HX9.out).raw11 Try.underlying45 rfl (by kernel_rfl) ?_) | (with_reducible refine wpList_push (o := ⟨some 46, _, _, _, _, _⟩) rfl (.tmp 43) (.tmp 45) 39 rfl wa.heap.size 45 (.agg #[.int .i64 0, .bool false]) 2 16 Try.underlying39 info_step14 ?hz4 (by decide) A3 (k3) c3 ((L3).flatMap stC) ?hs4 hO ⟨w8.heap.size, 0, none⟩ 1 1 (stC ⟨(i : Int), true⟩) ?hx4 hN hC h1 hBD ?next4))
            all_goals try rfl
            case next4 =>
              intro A4 c4 w9 ho hg
              have HO9 := Lib.hid (OwS14.snoc HLN.out ho.out)
              have HB9 := Lib.hid (below_own HBW.out HBW.out.size hO.out (Nat.le_refl _) rfl hg.out)
              clear ho hg hN hO hC h1 hBD HBW HLN
              go_wp2
              go_roundg (gk - 1)
              case measure => omega
              case rel =>
                refine ⟨i + 1, k3 + 1, A4, c4, by omega, by omega, by go_num, rfl, ?_, HB9⟩
                have hL : preL t s (i + 1) = L3 ++ [⟨(i : Int), true⟩] := by rw [pre_succ, HST.out, ← HL3.out]; simp
                rw [hL]
                exact HO9

end Go.Proofs.Ytfchmjldhefmkaa
