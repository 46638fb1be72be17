/-
  linesidelaw12.LinkTries, walked.
-/
import Derived.Test.YtbohoejikihnfaaLawDone

import Derived.Test.YtbohoejikihnfaaLawLinkLost

import Derived.BigQuiet

import Derived.Deep.RegionHeld3

namespace Go.Proofs.Ytbohoejikihnfaa

open Go.RowKit

open Go.Great

set_option maxRecDepth 100000 in
set_option maxHeartbeats 16000000 in
theorem linkTries_walk (most : Int) (AO : Option Addr) (nO cO : Nat) (ops : List W0) (B : Option Addr) (d : Nat) (xs : List Nat) (t : Int) (w : World) (_wm : (Lit.int .i64 most).wf = true) (hops : WsR (fun b => b < w.heap.size) w AO nO cO ops) (hx : BodyR (fun b => b < w.heap.size) w (.slice B xs.length d) xs) (_wt : (Lit.int .i64 t).wf = true) :
    Calls Try.prog 5 #[.int .i64 most, .slice AO nO cO, .slice B xs.length d, .int .i64 t] w fun e w' => e = .returned (.bool true) ∧ Below w.heap.size w w' := by
  have HBX := Lib.hid hx
  have HOPS := Lib.hid hops
  have HON := Lib.hid hops.len
  have HN := Lib.hid (fun W => olk_new 10 most 1000 0 W)
  have HAW := Lib.hid (awake12_any w)
  clear hx hops
  go_enter Try.func5, Try.ntmps5
  have HB0 : Hid (Below w.heap.size w w) := Lib.hid (Below.refl _ _)
  obtain s0 := HB0.out
  have HK := Lib.hid (HAW.out)
  clear s0
  go_wp2_with fail
  refine HK.out.mono ?_
  rintro e v1 ⟨rfl, hb1⟩
  obtain s0 := HB0.out
  have hbn : Below w.heap.size w v1 := hb1
  have HB1 : Hid (Below w.heap.size w v1) := Lib.hid (s0.trans (hbn.mono s0.size))
  have hz1_ := hbn.size
  clear s0
  clear HK HB0 HAW hb1
  clear hbn
  obtain s0 := HB1.out
  have HK := Lib.hid (HN.out v1)
  clear s0
  go_wp2_with fail
  refine HK.out.mono ?_
  rintro e v2 ⟨rfl, hb1⟩
  obtain s0 := HB1.out
  have hbn : Below v1.heap.size v1 v2 := hb1
  have HB2 : Hid (Below w.heap.size w v2) := Lib.hid (s0.trans (hbn.mono s0.size))
  have hz2_ := hbn.size
  clear s0
  clear HK HB1 HN hb1
  clear hbn
  obtain s0 := HB2.out
  have le2_2 : w.heap.size ≤ v2.heap.size := s0.size
  have HS0 : Hid (Has (v2.alloc (.cells #[.int .i64 0, .int .i64 0, .int .i64 0, .int .i64 0, .slice none 0 0] 24)) (v2.heap.size) 24 #[.int .i64 0, .int .i64 0, .int .i64 0, .int .i64 0, .slice none 0 0]) := Lib.hid (Has.made v2 24 #[.int .i64 0, .int .i64 0, .int .i64 0, .int .i64 0, .slice none 0 0])
  obtain ⟨v3, hv3⟩ : ∃ v3, (v2.alloc (.cells #[.int .i64 0, .int .i64 0, .int .i64 0, .int .i64 0, .slice none 0 0] 24)).setRow (v2.heap.size) (lkC (newL 10 most 1000 0) none 0) = v3 := ⟨_, rfl⟩
  have hy3_ : v2.heap.size + 1 ≤ v3.heap.size := by rw [← hv3]; simp
  have hbw : Below v2.heap.size v2 v3 := by rw [← hv3]; exact (below_row (g := v2.heap.size) (Below.alloc (Below.refl v2.heap.size v2) (Nat.le_refl _) (.cells #[.int .i64 0, .int .i64 0, .int .i64 0, .int .i64 0, .slice none 0 0] 24)) (by omega) (lkC (newL 10 most 1000 0) none 0))
  have HB3 : Hid (Has v3 (v2.heap.size) 24 (lkC (newL 10 most 1000 0) none 0) ∧ Below w.heap.size w v3) := Lib.hid ⟨(by rw [← hv3]; exact (has_row11 (Has.made v2 24 #[.int .i64 0, .int .i64 0, .int .i64 0, .int .i64 0, .slice none 0 0]) (lkC (newL 10 most 1000 0) none 0))), s0.trans (hbw.mono s0.size)⟩
  clear hbw
  have HWv3 := Lib.hid hv3
  clear s0
  clear hv3 HB2
  go_upto_region 3 with (first | (with_reducible refine wpList_store_rowTo (o := ⟨none, _, _, _, _, _⟩) rfl 24 _ _ rfl rfl (v2.heap.size) (lkC (newL 10 most 1000 0) none 0) rfl rfl 24 _ (HS0.out).raw11 (by kernel_rfl) (by kernel_rfl) (by kernel_rfl) ?_))
  rw [HWv3.out]
  clear HWv3 HS0
  by_cases he : newE12 10 most 1000 0 = 0
  rotate_left
  · have he1 : (newE12 10 most 1000 0 != 0) = true := by simp [he]
    have HBF := Lib.hid HB3.out.2
    generalize newE12 10 most 1000 0 = e at *
    clear HB3 he
    go_wp2
    go_ret
    exact ⟨rfl, HBF.out⟩
  have HNE := Lib.hid he
  obtain ⟨hm0, hm1, hm2, hm3⟩ := new_may he
  rw [he]
  clear he
  by_cases hgo : nO ≤ 200 ∧ 1 ≤ xs.length ∧ xs.length ≤ 1023
  rotate_left
  · have hno : 200 < (nO : Int) ∨ (¬ 200 < (nO : Int) ∧ (xs.length : Int) < 1) ∨ (¬ 200 < (nO : Int) ∧ ¬ (xs.length : Int) < 1 ∧ 1023 < (xs.length : Int)) := by omega
    have HBF := Lib.hid HB3.out.2
    clear HB3 hgo hm0 hm1
    rcases hno with x1 | ⟨x1, x2⟩ | ⟨x1, x2, x3⟩
    all_goals
      go_wp2
      go_ret
      exact ⟨rfl, HBF.out⟩
  obtain ⟨g1, g2, g3⟩ := hgo
  have x1 : ¬ 200 < (nO : Int) := by omega
  have x2 : ¬ (xs.length : Int) < 1 := by omega
  have x3 : ¬ 1023 < (xs.length : Int) := by omega
  have hS := fun W hx => olk_sent (P := (fun b => b < w.heap.size)) (newL 10 most 1000 0) none 0 t 0 B d xs W (by rw [hm1]; exact WsR.nil W) hx (may_light hm0) (by omega)
  have hnz : (newL 10 most 1000 0).ws.length = 0 := by rw [hm1]; rfl
  have HSM := Lib.hid (fun h => tries_start (most := most) (t := t) (b := xs) HNE.out h)
  have HSN := Lib.hid (fun h => sent_none (l := newL 10 most 1000 0) (t := t) (now := 0) (xs := xs) h)
  clear hm0 hm1
  obtain ⟨l1, hl1⟩ : ∃ l1, newL 10 most 1000 0 = l1 := ⟨_, rfl⟩
  rw [hl1] at hS HSM HSN HB3
  clear hl1 hnz HNE
  obtain ⟨l2, hl2⟩ : ∃ l2, sentL l1 t 0 xs = l2 := ⟨_, rfl⟩
  obtain ⟨e2, he2⟩ : ∃ e2, sentE l1 t 0 xs = e2 := ⟨_, rfl⟩
  rw [hl2] at HSM HSN
  rw [he2] at HSM HSN
  simp only [hl2, he2] at hS
  clear hl2 he2
  have HS := Lib.hid hS
  clear hS
  obtain ⟨s0, s1⟩ := HB3.out
  have HL0 := Lib.hid s0
  have HK := Lib.hid (HS.out v3 (HBX.out.under s1))
  clear s0 s1
  go_wp2_with (first | (with_reducible refine wpList_load_row (o := ⟨some 48, _, _, _, _, _⟩) rfl 24 _ rfl (v2.heap.size) rfl 24 (lkC l1 none 0) (0, 0) _ (HL0.out).raw11 Try.underlying24 rfl (by kernel_rfl) ?_))
  refine HK.out.mono ?_
  rintro e v4 ⟨A2, c2, rfl, hw_, hb1⟩
  obtain ⟨s0, s1⟩ := HB3.out
  have hbn : Below v3.heap.size v3 v4 := hb1
  have HB4 : Hid (Has v4 (v2.heap.size) 24 (lkC l1 none 0) ∧ Below w.heap.size w v4) := Lib.hid ⟨s0.under hbn s0.lt, s1.trans (hbn.mono s1.size)⟩
  have hz4_ := hbn.size
  clear s0 s1
  clear HK HB3 HL0 HS hb1 x1 x2 x3
  clear hbn
  obtain ⟨s0, s1⟩ := HB4.out
  have HB5 : Hid (Has v4 (v2.heap.size) 24 (lkC l1 none 0) ∧ WsR (Nw (fun b => b < w.heap.size) v3 v4) v4 A2 l2.ws.length c2 l2.ws ∧ Below w.heap.size w v4) := Lib.hid ⟨s0, hw_, s1⟩
  clear s0 s1
  clear HB4
  clear hw_
  obtain ⟨s0, s1, s2⟩ := HB5.out
  have HS0 : Hid (Has v4 (v2.heap.size) 24 (lkC l1 none 0)) := Lib.hid s0
  obtain ⟨v5, hv5⟩ : ∃ v5, v4.setRow (v2.heap.size) (lkC l2 A2 c2) = v5 := ⟨_, rfl⟩
  have hy5_ : v4.heap.size + 0 ≤ v5.heap.size := by rw [← hv5]; simp
  have HB6 : Hid (Has v5 (v2.heap.size) 24 (lkC l2 A2 c2) ∧ WsR (Nw (fun b => b < w.heap.size) v3 v4) v5 A2 l2.ws.length c2 l2.ws ∧ Below w.heap.size w v5) := Lib.hid (by rw [← hv5]; exact ⟨(has_row11 s0 (lkC l2 A2 c2)), ((s1).row (by first | (simp only [Nw]; omega) | exact fun h_ => h_ rfl | omega) (lkC l2 A2 c2)), (below_row (g := v2.heap.size) s2 (by omega) (lkC l2 A2 c2))⟩)
  have HWv5 := Lib.hid hv5
  clear s0 s1 s2
  clear hv5 HB5
  go_upto_region 6 with (first | (with_reducible refine wpList_store_rowTo (o := ⟨none, _, _, _, _, _⟩) rfl 24 _ _ rfl rfl (v2.heap.size) (lkC l2 A2 c2) rfl rfl 24 _ (HS0.out).raw11 (by kernel_rfl) (by kernel_rfl) (by kernel_rfl) ?_))
  rw [HWv5.out]
  clear HWv5 HS0
  by_cases hf : e2 = 0
  rotate_left
  · have hf1 : (e2 != 0) = true := by simp [hf]
    have hz := HSN.out hf
    have hl0 : l2.ws.length = 0 := by rw [hz]; rfl
    obtain ⟨s0, s1, s2⟩ := HB6.out
    have m4 : v5.cell? ⟨v2.heap.size, 4, none⟩ = some (.slice A2 l2.ws.length c2) := s0.cell 4
    clear s0 s1 s2
    rw [hl0] at m4
    have HBF := Lib.hid HB6.out.2.2
    clear HB6 hf hz hl0
    go_wp2
    go_ret
    exact ⟨rfl, HBF.out⟩
  have hf1 : (e2 != 0) = false := by simp [hf]
  have HT0 := Lib.hid (HSM.out hf)
  clear HSM HSN hf
  obtain ⟨g, hg⟩ : ∃ g, v2.heap.size = g := ⟨_, rfl⟩
  obtain ⟨w0, hw0⟩ : ∃ w0, v5 = w0 := ⟨_, rfl⟩
  obtain ⟨s0, s1, s2⟩ := HB6.out
  have HS0 : Hid (Has w0 g 24 (lkC l2 A2 c2)) := Lib.hid (by rw [← hg, ← hw0]; exact s0)
  have HW0 : Hid (WsR (fun b => b ≠ g) w0 A2 l2.ws.length c2 l2.ws) := Lib.hid (by rw [← hg, ← hw0]; exact s1.wide (fun b_ h_ => by simp only [Nw] at h_; omega))
  have HB0 : Hid (Below w.heap.size w w0) := Lib.hid (by rw [← hw0]; exact s2)
  have hgw : w.heap.size ≤ g := by omega
  clear s0 s1 s2
  simp only [hg]
  rw [hw0]
  clear hg hw0 HB6 le2_2
  go_wp2
  go_loopg [13, 14] nO (fun kk v13 v14 wl => ∃ (i : Nat) (told : Int) (x : L0) (A3 : Option Addr) (c3 : Nat), i ≤ nO ∧ nO - i ≤ kk ∧ v14 = .int .i64 i ∧ v13 = .int .i64 told ∧ Hid (TriesI most xs x told) ∧ Hid (Has wl g 24 (lkC x A3 c3)) ∧ Hid (WsR (fun b => b ≠ g) wl A3 x.ws.length c3 x.ws) ∧ Hid (Below w.heap.size w wl))
  case atStart => exact ⟨0, 0, l2, A2, c2, by omega, by omega, rfl, rfl, HT0, HS0, HW0, HB0⟩
  case round =>
    obtain ⟨i, told, x, A3, c3, hi, hik, rfl, rfl, HT, HS, HW, HB⟩ := hrel
    clear HT0 HS0 HW0 HB0
    by_cases hlt : i < nO
    rotate_left
    · have y1 : ¬ (i : Int) < nO := by omega
      go_wp2
      go_ret
      exact ⟨rfl, HB.out⟩
    obtain ⟨o, ho⟩ : ∃ o, ops[i]? = some o := ⟨_, List.getElem?_eq_getElem (by rw [HON.out]; omega)⟩
    obtain ⟨bk, off, v, hAO, hv, d0, d1, d2, d3⟩ := (HOPS.out.under HB.out).at_ ho
    subst hAO
    have HV := Lib.hid hv
    obtain ⟨VA, vc, rfl, -⟩ := hv
    clear ho
    have y0 : (0 : Int) ≤ i := by omega
    have y1 : (i : Int) < nO := by omega
    by_cases h2 : o.body.length ≤ 2000
    rotate_left
    · have x1 : 2000 < (o.body.length : Int) := by omega
      clear d0 d1 d2
      go_wp2
      go_ret
      exact ⟨rfl, HB.out⟩
    have x1 : ¬ 2000 < (o.body.length : Int) := by omega
    have h8 : (∀ z ∈ xs, z < 256) := by obtain ⟨_, _, _, _, h1, _⟩ := HBX.out; exact h1
    have h8o : (∀ z ∈ o.body, z < 256) := by obtain ⟨_, _, _, _, h1, _⟩ := HV.out; exact h1
    have hsb := str8_beq12 h8o h8
    have H8 := Lib.hid h8
    go_upto_region 14 with fail
    clear x1
    obtain ⟨w1, hw1⟩ : ∃ w1, w1 = wr := ⟨_, rfl⟩
    subst hw1
    obtain ⟨gk1, hgk1⟩ : ∃ gk1, gk1 = gk := ⟨_, rfl⟩
    subst hgk1
    obtain ⟨q, hq⟩ : ∃ q, (decide (o.t = 0) && decide (o.body = xs)) = q := ⟨_, rfl⟩
    go_cut [89] (fun s89 wx => s89 = .bool q ∧ wx = w1.drew)
    case first =>
      by_cases hk : o.t = 0
      · have hk1 : (o.t == 0) = true := by simp [hk]
        skip
        rw [decide_eq_true hk, Bool.true_and] at hq
        rw [hq] at hsb
        clear hk
        refine wp_region_held_drew (S := (fun w' => w'.cell? ⟨bk, off + i * 4, none⟩ = some (.int .i64 o.t) ∧ w'.cell? ⟨bk, off + i * 4 + 3, none⟩ = some (.slice VA o.body.length vc) ∧ (convert 25 9 (.slice VA o.body.length vc)).run Try.prog w' = .ok (.string (str8 o.body)) w' ∧ (convert 25 9 (.slice B xs.length d)).run Try.prog w' = .ok (.string (str8 xs)) w')) (by kernel_rfl) ?_ (fun hHeld => ?_)
        · exact ⟨d0, d3, (HV.out.under (below_dr11 (Below.refl _ _))).conv, (HBX.out.under (below_dr11 HB.out)).conv⟩
        refine wpAnyH_take (i := 0) (oi := ⟨some 73, _, _, _, _, _⟩) (v := ?_) rfl (by kernel_rfl) (by kernel_rfl) (by kernel_rfl) (fun _ _ _ h => h) (Or.inl ⟨by rfl, ?_⟩) (by assumption) ?_
        rotate_left
        · intro w_ hSw; (try dsimp only at hSw); (obtain ⟨s0, s1, s2, s3⟩ := hSw); go_simp <;> with_reducible rfl
        simp only [Act.put, List.setIfInBounds_toArray, List.set_cons_zero, List.set_cons_succ]
        refine wpAnyH_take (i := 1) (oi := ⟨some 74, _, _, _, _, _⟩) (v := ?_) rfl (by kernel_rfl) (by kernel_rfl) (by kernel_rfl) (fun _ _ _ h => h) (Or.inl ⟨by rfl, ?_⟩) (by assumption) ?_
        rotate_left
        · intro w_ hSw; (try dsimp only at hSw); (obtain ⟨s0, s1, s2, s3⟩ := hSw); go_simp <;> with_reducible rfl
        simp only [Act.put, List.setIfInBounds_toArray, List.set_cons_zero, List.set_cons_succ]
        refine wpAnyH_take (i := 2) (oi := ⟨some 75, _, _, _, _, _⟩) (v := ?_) rfl (by kernel_rfl) (by kernel_rfl) (by kernel_rfl) (fun _ _ _ h => h) (Or.inl ⟨by rfl, ?_⟩) (by assumption) ?_
        rotate_left
        · intro w_ hSw; (try dsimp only at hSw); (obtain ⟨s0, s1, s2, s3⟩ := hSw); go_simp <;> with_reducible rfl
        simp only [Act.put, List.setIfInBounds_toArray, List.set_cons_zero, List.set_cons_succ]
        refine wpAnyH_take (i := 3) (oi := ⟨some 76, _, _, _, _, _⟩) (v := ?_) rfl (by kernel_rfl) (by kernel_rfl) (by kernel_rfl) (fun _ _ _ h => h) (Or.inl ⟨by rfl, ?_⟩) (by assumption) ?_
        rotate_left
        · intro w_ hSw; (try dsimp only at hSw); (obtain ⟨s0, s1, s2, s3⟩ := hSw); go_simp <;> with_reducible rfl
        simp only [Act.put, List.setIfInBounds_toArray, List.set_cons_zero, List.set_cons_succ]
        refine wpAnyH_take (i := 4) (oi := ⟨some 77, _, _, _, _, _⟩) (v := ?_) rfl (by kernel_rfl) (by kernel_rfl) (by kernel_rfl) (fun _ _ _ h => h) (Or.inl ⟨by rfl, ?_⟩) (by assumption) ?_
        rotate_left
        · intro w_ hSw; (try dsimp only at hSw); (obtain ⟨s0, s1, s2, s3⟩ := hSw); go_simp <;> with_reducible rfl
        simp only [Act.put, List.setIfInBounds_toArray, List.set_cons_zero, List.set_cons_succ]
        refine wpAnyH_take (i := 5) (oi := ⟨some 78, _, _, _, _, _⟩) (v := ?_) rfl (by kernel_rfl) (by kernel_rfl) (by kernel_rfl) (fun _ _ _ h => h) (Or.inl ⟨by rfl, ?_⟩) (by assumption) ?_
        rotate_left
        · intro w_ hSw; (try dsimp only at hSw); (obtain ⟨s0, s1, s2, s3⟩ := hSw); go_simp <;> with_reducible rfl
        simp only [Act.put, List.setIfInBounds_toArray, List.set_cons_zero, List.set_cons_succ]
        refine wpAnyH_take (i := 6) (oi := ⟨some 79, _, _, _, _, _⟩) (v := ?_) rfl (by kernel_rfl) (by kernel_rfl) (by kernel_rfl) (fun _ _ _ h => h) (Or.inl ⟨by rfl, ?_⟩) (by assumption) ?_
        rotate_left
        · intro w_ hSw; (try dsimp only at hSw); (obtain ⟨s0, s1, s2, s3⟩ := hSw); go_simp <;> with_reducible rfl
        simp only [Act.put, List.setIfInBounds_toArray, List.set_cons_zero, List.set_cons_succ]
        refine wpAnyH_take (i := 7) (oi := ⟨some 80, _, _, _, _, _⟩) (v := ?_) rfl (by kernel_rfl) (by kernel_rfl) (by kernel_rfl) (fun _ _ _ h => h) (Or.inl ⟨by rfl, ?_⟩) (by assumption) ?_
        rotate_left
        · intro w_ hSw; (try dsimp only at hSw); (obtain ⟨s0, s1, s2, s3⟩ := hSw); go_simp <;> with_reducible rfl
        simp only [Act.put, List.setIfInBounds_toArray, List.set_cons_zero, List.set_cons_succ]
        refine wpAnyH_take (i := 8) (oi := ⟨some 81, _, _, _, _, _⟩) (v := ?_) rfl (by kernel_rfl) (by kernel_rfl) (by kernel_rfl) (fun _ _ _ h => h) (Or.inl ⟨by rfl, ?_⟩) (by assumption) ?_
        rotate_left
        · intro w_ hSw; (try dsimp only at hSw); (obtain ⟨s0, s1, s2, s3⟩ := hSw); go_simp <;> with_reducible rfl
        simp only [Act.put, List.setIfInBounds_toArray, List.set_cons_zero, List.set_cons_succ]
        refine wpAnyH_take (i := 9) (oi := ⟨some 82, _, _, _, _, _⟩) (v := ?_) rfl (by kernel_rfl) (by kernel_rfl) (by kernel_rfl) (fun _ _ _ h => h) (Or.inl ⟨by rfl, ?_⟩) (by assumption) ?_
        rotate_left
        · intro w_ hSw; (try dsimp only at hSw); (obtain ⟨s0, s1, s2, s3⟩ := hSw); go_simp <;> with_reducible rfl
        simp only [Act.put, List.setIfInBounds_toArray, List.set_cons_zero, List.set_cons_succ]
        refine wpAnyH_take (i := 10) (oi := ⟨some 83, _, _, _, _, _⟩) (v := ?_) rfl (by kernel_rfl) (by kernel_rfl) (by kernel_rfl) (fun _ _ _ h => h) (Or.inl ⟨by rfl, ?_⟩) (by assumption) ?_
        rotate_left
        · intro w_ hSw; (try dsimp only at hSw); (obtain ⟨s0, s1, s2, s3⟩ := hSw); go_simp <;> with_reducible rfl
        simp only [Act.put, List.setIfInBounds_toArray, List.set_cons_zero, List.set_cons_succ]
        refine wpAnyH_take (i := 11) (oi := ⟨some 84, _, _, _, _, _⟩) (v := ?_) rfl (by kernel_rfl) (by kernel_rfl) (by kernel_rfl) (fun _ _ _ h => h) (Or.inl ⟨by rfl, ?_⟩) (by assumption) ?_
        rotate_left
        · intro w_ hSw; (try dsimp only at hSw); (obtain ⟨s0, s1, s2, s3⟩ := hSw); go_simp <;> with_reducible rfl
        simp only [Act.put, List.setIfInBounds_toArray, List.set_cons_zero, List.set_cons_succ]
        refine wpAnyH_take (i := 12) (oi := ⟨some 85, _, _, _, _, _⟩) (v := ?_) rfl (by kernel_rfl) (by kernel_rfl) (by kernel_rfl) (fun _ _ _ h => h) (Or.inl ⟨by rfl, ?_⟩) (by assumption) ?_
        rotate_left
        · intro w_ hSw; (try dsimp only at hSw); (obtain ⟨s0, s1, s2, s3⟩ := hSw); go_simp <;> with_reducible rfl
        simp only [Act.put, List.setIfInBounds_toArray, List.set_cons_zero, List.set_cons_succ]
        refine wpAnyH_take (i := 13) (oi := ⟨some 86, _, _, _, _, _⟩) (v := ?_) rfl (by kernel_rfl) (by kernel_rfl) (by kernel_rfl) (fun _ _ _ h => h) (Or.inl ⟨by rfl, ?_⟩) (by assumption) ?_
        rotate_left
        · intro w_ hSw; (try dsimp only at hSw); (obtain ⟨s0, s1, s2, s3⟩ := hSw); go_simp <;> with_reducible rfl
        simp only [Act.put, List.setIfInBounds_toArray, List.set_cons_zero, List.set_cons_succ]
        refine wpAnyH_take (i := 14) (oi := ⟨some 87, _, _, _, _, _⟩) (v := ?_) rfl (by kernel_rfl) (by kernel_rfl) (by kernel_rfl) (fun _ _ _ h => h) (Or.inl ⟨by rfl, ?_⟩) (by assumption) ?_
        rotate_left
        · intro w_ hSw; (try dsimp only at hSw); (obtain ⟨s0, s1, s2, s3⟩ := hSw); go_simp <;> with_reducible rfl
        simp only [Act.put, List.setIfInBounds_toArray, List.set_cons_zero, List.set_cons_succ]
        refine wpAnyH_take (i := 15) (oi := ⟨some 88, _, _, _, _, _⟩) (v := ?_) rfl (by kernel_rfl) (by kernel_rfl) (by kernel_rfl) (fun _ _ _ h => h) (Or.inl ⟨by rfl, ?_⟩) (by assumption) ?_
        rotate_left
        · intro w_ hSw; (try dsimp only at hSw); (obtain ⟨s0, s1, s2, s3⟩ := hSw); go_simp <;> with_reducible rfl
        simp only [Act.put, List.setIfInBounds_toArray, List.set_cons_zero, List.set_cons_succ]
        refine wpAnyH_take (i := 16) (oi := ⟨some 89, _, _, _, _, _⟩) (v := ?_) rfl (by kernel_rfl) (by kernel_rfl) (by kernel_rfl) (fun _ _ _ h => h) (Or.inl ⟨by rfl, ?_⟩) (by assumption) ?_
        rotate_left
        · intro w_ hSw; (try dsimp only at hSw); (obtain ⟨s0, s1, s2, s3⟩ := hSw); go_simp <;> with_reducible rfl
        simp only [Act.put, List.setIfInBounds_toArray, List.set_cons_zero, List.set_cons_succ]
        refine wpAnyH_done (by kernel_rfl) ?_ _
        go_wp2_with fail
        go_meet
        exact ⟨by first | rfl | simp, rfl⟩
      · have hk1 : (o.t == 0) = false := by simp [hk]
        rw [decide_eq_false hk, Bool.false_and] at hq
        subst hq
        clear hk hsb
        refine wp_region_held_drew (S := (fun w' => w'.cell? ⟨bk, off + i * 4, none⟩ = some (.int .i64 o.t) ∧ w'.cell? ⟨bk, off + i * 4 + 3, none⟩ = some (.slice VA o.body.length vc) ∧ (convert 25 9 (.slice VA o.body.length vc)).run Try.prog w' = .ok (.string (str8 o.body)) w' ∧ (convert 25 9 (.slice B xs.length d)).run Try.prog w' = .ok (.string (str8 xs)) w')) (by kernel_rfl) ?_ (fun hHeld => ?_)
        · exact ⟨d0, d3, (HV.out.under (below_dr11 (Below.refl _ _))).conv, (HBX.out.under (below_dr11 HB.out)).conv⟩
        refine wpAnyH_take (i := 0) (oi := ⟨some 73, _, _, _, _, _⟩) (v := ?_) rfl (by kernel_rfl) (by kernel_rfl) (by kernel_rfl) (fun _ _ _ h => h) (Or.inl ⟨by rfl, ?_⟩) (by assumption) ?_
        rotate_left
        · intro w_ hSw; (try dsimp only at hSw); (obtain ⟨s0, s1, s2, s3⟩ := hSw); go_simp <;> with_reducible rfl
        simp only [Act.put, List.setIfInBounds_toArray, List.set_cons_zero, List.set_cons_succ]
        refine wpAnyH_take (i := 1) (oi := ⟨some 74, _, _, _, _, _⟩) (v := ?_) rfl (by kernel_rfl) (by kernel_rfl) (by kernel_rfl) (fun _ _ _ h => h) (Or.inl ⟨by rfl, ?_⟩) (by assumption) ?_
        rotate_left
        · intro w_ hSw; (try dsimp only at hSw); (obtain ⟨s0, s1, s2, s3⟩ := hSw); go_simp <;> with_reducible rfl
        simp only [Act.put, List.setIfInBounds_toArray, List.set_cons_zero, List.set_cons_succ]
        refine wpAnyH_take (i := 2) (oi := ⟨some 75, _, _, _, _, _⟩) (v := ?_) rfl (by kernel_rfl) (by kernel_rfl) (by kernel_rfl) (fun _ _ _ h => h) (Or.inl ⟨by rfl, ?_⟩) (by assumption) ?_
        rotate_left
        · intro w_ hSw; (try dsimp only at hSw); (obtain ⟨s0, s1, s2, s3⟩ := hSw); go_simp <;> with_reducible rfl
        simp only [Act.put, List.setIfInBounds_toArray, List.set_cons_zero, List.set_cons_succ]
        refine wpAnyH_take (i := 3) (oi := ⟨some 76, _, _, _, _, _⟩) (v := ?_) rfl (by kernel_rfl) (by kernel_rfl) (by kernel_rfl) (fun _ _ _ h => h) (Or.inl ⟨by rfl, ?_⟩) (by assumption) ?_
        rotate_left
        · intro w_ hSw; (try dsimp only at hSw); (obtain ⟨s0, s1, s2, s3⟩ := hSw); go_simp <;> with_reducible rfl
        simp only [Act.put, List.setIfInBounds_toArray, List.set_cons_zero, List.set_cons_succ]
        refine wpAnyH_take (i := 4) (oi := ⟨some 77, _, _, _, _, _⟩) (v := ?_) rfl (by kernel_rfl) (by kernel_rfl) (by kernel_rfl) (fun _ _ _ h => h) (Or.inl ⟨by rfl, ?_⟩) (by assumption) ?_
        rotate_left
        · intro w_ hSw; (try dsimp only at hSw); (obtain ⟨s0, s1, s2, s3⟩ := hSw); go_simp <;> with_reducible rfl
        simp only [Act.put, List.setIfInBounds_toArray, List.set_cons_zero, List.set_cons_succ]
        refine wpAnyH_take (i := 5) (oi := ⟨some 78, _, _, _, _, _⟩) (v := ?_) rfl (by kernel_rfl) (by kernel_rfl) (by kernel_rfl) (fun _ _ _ h => h) (Or.inl ⟨by rfl, ?_⟩) (by assumption) ?_
        rotate_left
        · intro w_ hSw; (try dsimp only at hSw); (obtain ⟨s0, s1, s2, s3⟩ := hSw); go_simp <;> with_reducible rfl
        simp only [Act.put, List.setIfInBounds_toArray, List.set_cons_zero, List.set_cons_succ]
        refine wpAnyH_take (i := 6) (oi := ⟨some 79, _, _, _, _, _⟩) (v := ?_) rfl (by kernel_rfl) (by kernel_rfl) (by kernel_rfl) (fun _ _ _ h => h) (Or.inl ⟨by rfl, ?_⟩) (by assumption) ?_
        rotate_left
        · intro w_ hSw; (try dsimp only at hSw); (obtain ⟨s0, s1, s2, s3⟩ := hSw); go_simp <;> with_reducible rfl
        simp only [Act.put, List.setIfInBounds_toArray, List.set_cons_zero, List.set_cons_succ]
        refine wpAnyH_take (i := 7) (oi := ⟨some 80, _, _, _, _, _⟩) (v := undef) rfl (by kernel_rfl) (by kernel_rfl) (by kernel_rfl) (fun _ _ _ h => h) (Or.inr ⟨by rfl, rfl⟩) (by assumption) ?_
        simp only [Act.put, List.setIfInBounds_toArray, List.set_cons_zero, List.set_cons_succ]
        refine wpAnyH_take (i := 8) (oi := ⟨some 81, _, _, _, _, _⟩) (v := undef) rfl (by kernel_rfl) (by kernel_rfl) (by kernel_rfl) (fun _ _ _ h => h) (Or.inr ⟨by rfl, rfl⟩) (by assumption) ?_
        simp only [Act.put, List.setIfInBounds_toArray, List.set_cons_zero, List.set_cons_succ]
        refine wpAnyH_take (i := 9) (oi := ⟨some 82, _, _, _, _, _⟩) (v := undef) rfl (by kernel_rfl) (by kernel_rfl) (by kernel_rfl) (fun _ _ _ h => h) (Or.inr ⟨by rfl, rfl⟩) (by assumption) ?_
        simp only [Act.put, List.setIfInBounds_toArray, List.set_cons_zero, List.set_cons_succ]
        refine wpAnyH_take (i := 10) (oi := ⟨some 83, _, _, _, _, _⟩) (v := undef) rfl (by kernel_rfl) (by kernel_rfl) (by kernel_rfl) (fun _ _ _ h => h) (Or.inr ⟨by rfl, rfl⟩) (by assumption) ?_
        simp only [Act.put, List.setIfInBounds_toArray, List.set_cons_zero, List.set_cons_succ]
        refine wpAnyH_take (i := 11) (oi := ⟨some 84, _, _, _, _, _⟩) (v := undef) rfl (by kernel_rfl) (by kernel_rfl) (by kernel_rfl) (fun _ _ _ h => h) (Or.inr ⟨by rfl, rfl⟩) (by assumption) ?_
        simp only [Act.put, List.setIfInBounds_toArray, List.set_cons_zero, List.set_cons_succ]
        refine wpAnyH_take (i := 12) (oi := ⟨some 85, _, _, _, _, _⟩) (v := undef) rfl (by kernel_rfl) (by kernel_rfl) (by kernel_rfl) (fun _ _ _ h => h) (Or.inr ⟨by rfl, rfl⟩) (by assumption) ?_
        simp only [Act.put, List.setIfInBounds_toArray, List.set_cons_zero, List.set_cons_succ]
        refine wpAnyH_take (i := 13) (oi := ⟨some 86, _, _, _, _, _⟩) (v := undef) rfl (by kernel_rfl) (by kernel_rfl) (by kernel_rfl) (fun _ _ _ h => h) (Or.inr ⟨by rfl, rfl⟩) (by assumption) ?_
        simp only [Act.put, List.setIfInBounds_toArray, List.set_cons_zero, List.set_cons_succ]
        refine wpAnyH_take (i := 14) (oi := ⟨some 87, _, _, _, _, _⟩) (v := undef) rfl (by kernel_rfl) (by kernel_rfl) (by kernel_rfl) (fun _ _ _ h => h) (Or.inr ⟨by rfl, rfl⟩) (by assumption) ?_
        simp only [Act.put, List.setIfInBounds_toArray, List.set_cons_zero, List.set_cons_succ]
        refine wpAnyH_take (i := 15) (oi := ⟨some 88, _, _, _, _, _⟩) (v := undef) rfl (by kernel_rfl) (by kernel_rfl) (by kernel_rfl) (fun _ _ _ h => h) (Or.inr ⟨by rfl, rfl⟩) (by assumption) ?_
        simp only [Act.put, List.setIfInBounds_toArray, List.set_cons_zero, List.set_cons_succ]
        refine wpAnyH_take (i := 16) (oi := ⟨some 89, _, _, _, _, _⟩) (v := ?_) rfl (by kernel_rfl) (by kernel_rfl) (by kernel_rfl) (fun _ _ _ h => h) (Or.inl ⟨by rfl, ?_⟩) (by assumption) ?_
        rotate_left
        · intro w_ hSw; (try dsimp only at hSw); (obtain ⟨s0, s1, s2, s3⟩ := hSw); go_simp <;> with_reducible rfl
        simp only [Act.put, List.setIfInBounds_toArray, List.set_cons_zero, List.set_cons_succ]
        refine wpAnyH_done (by kernel_rfl) ?_ _
        go_wp2_with fail
        go_meet
        exact ⟨by first | rfl | simp, rfl⟩
    case rest =>
      obtain ⟨rfl, hwx⟩ := hcut
      obtain ⟨w2, hw2⟩ : ∃ w2, w2 = wc := ⟨_, rfl⟩
      subst hw2
      have hdr : Below w1.heap.size w1 w2 := by rw [hwx]; exact below_dr11 (Below.refl _ _)
      have HB1 := Lib.hid (HB.out.trans (hdr.mono HB.out.size))
      have HS1 := Lib.hid (HS.out.under hdr HS.out.lt)
      have HW1 := Lib.hid (HW.out.under hdr)
      have HV1 : Hid (BodyR (fun b => b < w.heap.size) w2 (.slice VA o.body.length vc) o.body) := Lib.hid (HV.out.under hdr)
      cases q with
      | true =>
        clear d0 d1 d2 d3 hsb hq hdr hwx
        go_wp2
        go_roundg (gk1 - 1)
        case measure => omega
        case rel => exact ⟨i + 1, told, x, A3, c3, by omega, by omega, by go_num, rfl, HT, HS1, HW1, HB1⟩
      | false =>
        have ho2 : ¬ (o.t = 0 ∧ o.body = xs) := by
          rintro ⟨h1, h2⟩
          rw [decide_eq_true h1, decide_eq_true h2] at hq
          exact absurd hq (by decide)
        obtain ⟨hT2, hT3, hT4⟩ := tries_step HT.out o ho2
        have hlow := HW1.out.low
        have hxl : BodyR (fun b => b ≠ g ∧ b < w2.heap.size) w2 (.slice VA o.body.length vc) o.body := HV1.out.wide (fun b hb => ⟨by omega, Nat.lt_of_lt_of_le hb HB1.out.size⟩)
        have HDN := Lib.hid (fun W (hW : Below w2.heap.size w2 W) => odone_any (P := fun b => b ≠ g ∧ b < w2.heap.size) x A3 c3 o VA vc W (hlow.under hW) (hxl.under hW) (may_light HT.out.1) h2)
        unfold DonePost wtA at HDN
        obtain ⟨dn, hdn⟩ : ∃ dn, done0 x o = dn := ⟨_, rfl⟩
        rw [hdn] at hT2 hT3 hT4 HDN
        clear hdn
        obtain ⟨y, ag, lost⟩ := dn
        dsimp only at hT2 hT3 hT4 HDN
        have HT2 := Lib.hid hT2; have HT3 := Lib.hid hT3
        have HT0_ := Lib.hid HT.out.2.2.1
        have hgw2 : g < w2.heap.size := HS1.out.lt
        have hww2 : w.heap.size ≤ w2.heap.size := HB1.out.size
        have e0 : w2.cell? ⟨bk, off + i * 4, none⟩ = some (.int .i64 o.t) := (hdr.cell (cell_block d0)).trans d0
        have e1 : w2.cell? ⟨bk, off + i * 4 + 1, none⟩ = some (.int .i64 o.due) := (hdr.cell (cell_block d1)).trans d1
        have e2_ : w2.cell? ⟨bk, off + i * 4 + 2, none⟩ = some (.int .i64 o.tries) := (hdr.cell (cell_block d2)).trans d2
        have e3 : w2.cell? ⟨bk, off + i * 4 + 3, none⟩ = some (.slice VA o.body.length vc) := (hdr.cell (cell_block d3)).trans d3
        have KC : Hid (∀ W, Below w2.heap.size w2 W → ∀ a u, w2.cell? a = some u → W.cell? a = some u) := Lib.hid fun W hW a u ha => (hW.cell (cell_block ha)).trans ha
        clear hT2 hT3 hlow hxl ho2 hq hsb d0 d1 d2 d3 HW HS HB HT hdr hwx HV HV1 HW1
        go_upto_region 15 with fail
        go_cut [15, 16, 17] (fun s15 s16 s17 wx => ∃ (gy : Nat) (A5 : Option Addr) (c5 : Nat) (B5 : Option Addr) (d5 : Nat), s15 = .pointer (some ⟨gy, 0, none⟩) ∧ s16 = .slice B5 ag.length d5 ∧ s17 = .bool lost ∧ Hid (Has wx g 24 (lkC x A3 c3)) ∧ Hid (Has wx gy 24 (lkC y A5 c5)) ∧ Hid (WsR (fun b => b ≠ g ∧ b ≠ gy) wx A5 y.ws.length c5 y.ws) ∧ Hid (LsR (fun b => b ≠ g ∧ b ≠ gy) wx B5 ag.length d5 ag) ∧ Hid (Below w.heap.size w wx) ∧ w.heap.size ≤ gy ∧ gy ≠ g)
        case first =>
          have hd1 : Below w2.heap.size w2 w2.drew := below_draws (Below.refl _ _) 1
          refine wp_region_held_drew (S := (fun w' => Has w' g 24 (lkC x A3 c3) ∧ w'.cell? ⟨bk, off + i * 4, none⟩ = some (.int .i64 o.t) ∧ w'.cell? ⟨bk, off + i * 4 + 1, none⟩ = some (.int .i64 o.due) ∧ w'.cell? ⟨bk, off + i * 4 + 2, none⟩ = some (.int .i64 o.tries) ∧ w'.cell? ⟨bk, off + i * 4 + 3, none⟩ = some (.slice VA o.body.length vc))) (by kernel_rfl) ?_ (fun hHeld => ?_)
          · exact ⟨HS1.out.under hd1 HS1.out.lt, KC.out _ hd1 _ _ e0, KC.out _ hd1 _ _ e1, KC.out _ hd1 _ _ e2_, KC.out _ hd1 _ _ e3⟩
          refine wpAnyH_take (i := 0) (oi := ⟨some 91, _, _, _, _, _⟩) (v := .agg (lkC x A3 c3)) rfl (by kernel_rfl) (by kernel_rfl) (by kernel_rfl) (fun _ _ _ h => h) (yields_load_row11 24 _ rfl (g) rfl 24 (lkC x A3 c3) _ (fun _ ⟨h_, _, _, _, _⟩ => h_) Try.underlying24 rfl (by kernel_rfl) (by rfl)) (by assumption) ?_
          simp only [Act.put, List.setIfInBounds_toArray, List.set_cons_zero, List.set_cons_succ]
          refine wpAnyH_take (i := 1) (oi := ⟨some 92, _, _, _, _, _⟩) (v := ?_) rfl (by kernel_rfl) (by kernel_rfl) (by kernel_rfl) (fun _ _ _ h => h) (Or.inl ⟨by rfl, ?_⟩) (by assumption) ?_
          rotate_left
          · intro w_ hSw; (try dsimp only at hSw); (obtain ⟨s0, s1, s2, s3, s4⟩ := hSw); go_simp <;> with_reducible rfl
          simp only [Act.put, List.setIfInBounds_toArray, List.set_cons_zero, List.set_cons_succ]
          refine wpAnyH_take (i := 2) (oi := ⟨some 93, _, _, _, _, _⟩) (v := ?_) rfl (by kernel_rfl) (by kernel_rfl) (by kernel_rfl) (fun _ _ _ h => h) (Or.inl ⟨by rfl, ?_⟩) (by assumption) ?_
          rotate_left
          · intro w_ hSw; (try dsimp only at hSw); (obtain ⟨s0, s1, s2, s3, s4⟩ := hSw); go_simp <;> with_reducible rfl
          simp only [Act.put, List.setIfInBounds_toArray, List.set_cons_zero, List.set_cons_succ]
          refine wpAnyH_take (i := 3) (oi := ⟨some 94, _, _, _, _, _⟩) (v := ?_) rfl (by kernel_rfl) (by kernel_rfl) (by kernel_rfl) (fun _ _ _ h => h) (Or.inl ⟨by rfl, ?_⟩) (by assumption) ?_
          rotate_left
          · intro w_ hSw; (try dsimp only at hSw); (obtain ⟨s0, s1, s2, s3, s4⟩ := hSw); go_simp <;> with_reducible rfl
          simp only [Act.put, List.setIfInBounds_toArray, List.set_cons_zero, List.set_cons_succ]
          refine wpAnyH_take (i := 4) (oi := ⟨some 95, _, _, _, _, _⟩) (v := ?_) rfl (by kernel_rfl) (by kernel_rfl) (by kernel_rfl) (fun _ _ _ h => h) (Or.inl ⟨by rfl, ?_⟩) (by assumption) ?_
          rotate_left
          · intro w_ hSw; (try dsimp only at hSw); (obtain ⟨s0, s1, s2, s3, s4⟩ := hSw); go_simp <;> with_reducible rfl
          simp only [Act.put, List.setIfInBounds_toArray, List.set_cons_zero, List.set_cons_succ]
          refine wpAnyH_ready (rs := [5, 10]) (by kernel_rfl) (by simp) ?_
          refine AllReadyH.cons (o := ⟨some 96, _, _, _, _, _⟩) rfl (fun K hK => ?_) ?_
          · go_simp
            go_at_call 24
            refine (HDN.out _ hd1).mono ?_
            rintro e w3 ⟨A5, c5, B5, d5, rfl, hwn, hln, hbc⟩
            go_wp2_with fail
            have hb23 : Below w2.heap.size w2 w3 := undrew12 hbc
            refine hK.out _ _ ?_ (fun hHeld => ?_)
            · exact ⟨HS1.out.under hb23 HS1.out.lt, KC.out _ hb23 _ _ e0, KC.out _ hb23 _ _ e1, KC.out _ hb23 _ _ e2_, KC.out _ hb23 _ _ e3⟩
            clear hK K
            try simp only [Act.put, List.setIfInBounds_toArray, List.set_cons_zero, List.set_cons_succ]
            refine wpAnyH_take (i := 6) (oi := ⟨some 90, _, _, _, _, _⟩) (v := ?_) rfl (by kernel_rfl) (by kernel_rfl) (by kernel_rfl) (fun _ _ _ h => h) (Or.inl ⟨by rfl, ?_⟩) (by assumption) ?_
            rotate_left
            · intro w_ hSw; (try dsimp only at hSw); (obtain ⟨s0, s1, s2, s3, s4⟩ := hSw); go_simp <;> with_reducible rfl
            simp only [Act.put, List.setIfInBounds_toArray, List.set_cons_zero, List.set_cons_succ]
            refine wpAnyH_take (i := 7) (oi := ⟨some 97, _, _, _, _, _⟩) (v := ?_) rfl (by kernel_rfl) (by kernel_rfl) (by kernel_rfl) (fun _ _ _ h => h) (Or.inl ⟨by rfl, ?_⟩) (by assumption) ?_
            rotate_left
            · intro w_ hSw; (try dsimp only at hSw); (obtain ⟨s0, s1, s2, s3, s4⟩ := hSw); go_simp <;> with_reducible rfl
            simp only [Act.put, List.setIfInBounds_toArray, List.set_cons_zero, List.set_cons_succ]
            refine wpAnyH_take (i := 8) (oi := ⟨some 98, _, _, _, _, _⟩) (v := ?_) rfl (by kernel_rfl) (by kernel_rfl) (by kernel_rfl) (fun _ _ _ h => h) (Or.inl ⟨by rfl, ?_⟩) (by assumption) ?_
            rotate_left
            · intro w_ hSw; (try dsimp only at hSw); (obtain ⟨s0, s1, s2, s3, s4⟩ := hSw); go_simp <;> with_reducible rfl
            simp only [Act.put, List.setIfInBounds_toArray, List.set_cons_zero, List.set_cons_succ]
            refine wpAnyH_take (i := 9) (oi := ⟨some 99, _, _, _, _, _⟩) (v := ?_) rfl (by kernel_rfl) (by kernel_rfl) (by kernel_rfl) (fun _ _ _ h => h) (Or.inl ⟨by rfl, ?_⟩) (by assumption) ?_
            rotate_left
            · intro w_ hSw; (try dsimp only at hSw); (obtain ⟨s0, s1, s2, s3, s4⟩ := hSw); go_simp <;> with_reducible rfl
            simp only [Act.put, List.setIfInBounds_toArray, List.set_cons_zero, List.set_cons_succ]
            refine wpAnyH_ready (rs := [10]) (by kernel_rfl) (by simp) ?_
            refine AllReadyH.cons (o := ⟨some 15, _, _, _, _, _⟩) rfl (fun K hK => ?_) AllReadyH.nil
            go_simp
            have hmk : Has (w3.alloc (.cells #[.int .i64 0, .int .i64 0, .int .i64 0, .int .i64 0, .slice none 0 0] 24)) w3.heap.size 24 #[.int .i64 0, .int .i64 0, .int .i64 0, .int .i64 0, .slice none 0 0] := Has.made _ _ _
            have hb2m : Below w2.heap.size w2 (w3.alloc (.cells #[.int .i64 0, .int .i64 0, .int .i64 0, .int .i64 0, .slice none 0 0] 24)) := hb23.alloc hb23.size _
            refine hK.out _ _ ?_ (fun hHeld => ?_)
            · exact ⟨HS1.out.under hb2m HS1.out.lt, KC.out _ hb2m _ _ e0, KC.out _ hb2m _ _ e1, KC.out _ hb2m _ _ e2_, KC.out _ hb2m _ _ e3⟩
            clear hK K
            try simp only [Act.put, List.setIfInBounds_toArray, List.set_cons_zero, List.set_cons_succ]
            refine wpAnyH_ready (rs := [11]) (by kernel_rfl) (by simp) ?_
            refine AllReadyH.cons (o := ⟨none, _, _, _, _, _⟩) rfl (fun K hK => ?_) AllReadyH.nil
            rw [if_pos (by rfl)]
            refine wp_store_row 24 _ _ rfl (w3.heap.size) (lkC y A5 c5) (by rfl) (by rfl) 24 _ (hmk).raw11 (by kernel_rfl) (by kernel_rfl) (by kernel_rfl) ?_
            obtain ⟨w4, hw4⟩ : ∃ w4, (w3.alloc (.cells #[.int .i64 0, .int .i64 0, .int .i64 0, .int .i64 0, .slice none 0 0] 24)).setRow w3.heap.size (lkC y A5 c5) = w4 := ⟨_, rfl⟩
            rw [hw4]
            have hgw4 : Has w4 w3.heap.size 24 (lkC y A5 c5) := by rw [← hw4]; exact has_row11 hmk _
            have hb34 : Below w3.heap.size w3 w4 := by rw [← hw4]; exact below_row (g := w3.heap.size) ((Below.refl _ _).alloc (Nat.le_refl _) _) (Nat.le_refl _) _
            have hb24 : Below w2.heap.size w2 w4 := hb23.trans (hb34.mono hb23.size)
            refine hK.out _ _ ?_ (fun hHeld => ?_)
            · exact ⟨HS1.out.under hb24 HS1.out.lt, KC.out _ hb24 _ _ e0, KC.out _ hb24 _ _ e1, KC.out _ hb24 _ _ e2_, KC.out _ hb24 _ _ e3⟩
            clear hK K
            obtain ⟨gy, hgy⟩ : ∃ gy, w3.heap.size = gy := ⟨_, rfl⟩
            have h23 := hb23.size
            rw [hgy] at hgw4 ⊢
            have HF1 := Lib.hid (HS1.out.under hb24 HS1.out.lt); have HF2 := Lib.hid hgw4
            have HF3 : Hid (WsR (fun b => b ≠ g ∧ b ≠ gy) w4 A5 y.ws.length c5 y.ws) := Lib.hid ((hwn.under hb34).wide (fun b hb => by rcases hb with ⟨h1, h2⟩ | ⟨h1, h2⟩ <;> (first | exact ⟨h1, by omega⟩ | exact ⟨by have : w2.drew.heap.size = w2.heap.size := rfl; omega, by omega⟩)))
            have HF4 : Hid (LsR (fun b => b ≠ g ∧ b ≠ gy) w4 B5 ag.length d5 ag) := Lib.hid ((hln.under hb34).wide12 (fun b hb => by rcases hb with ⟨h1, h2⟩ | ⟨h1, h2⟩ <;> (first | exact ⟨h1, by omega⟩ | exact ⟨by have : w2.drew.heap.size = w2.heap.size := rfl; omega, by omega⟩)))
            have HF5 := Lib.hid (HB1.out.trans (hb24.mono HB1.out.size))
            have hgy1 : w.heap.size ≤ gy := by omega
            have hgy2 : gy ≠ g := by omega
            clear hwn hln hbc hb23 hb34 hb24 hb2m hmk hgw4 hw4 hgy h23
            refine wpAnyH_take (i := 12) (oi := ⟨some 16, _, _, _, _, _⟩) (v := ?_) rfl (by kernel_rfl) (by kernel_rfl) (by kernel_rfl) (fun _ _ _ h => h) (Or.inl ⟨by rfl, ?_⟩) (by assumption) ?_
            rotate_left
            · intro w_ hSw; (try dsimp only at hSw); (obtain ⟨s0, s1, s2, s3, s4⟩ := hSw); go_simp <;> with_reducible rfl
            simp only [Act.put, List.setIfInBounds_toArray, List.set_cons_zero, List.set_cons_succ]
            refine wpAnyH_take (i := 13) (oi := ⟨some 17, _, _, _, _, _⟩) (v := ?_) rfl (by kernel_rfl) (by kernel_rfl) (by kernel_rfl) (fun _ _ _ h => h) (Or.inl ⟨by rfl, ?_⟩) (by assumption) ?_
            rotate_left
            · intro w_ hSw; (try dsimp only at hSw); (obtain ⟨s0, s1, s2, s3, s4⟩ := hSw); go_simp <;> with_reducible rfl
            simp only [Act.put, List.setIfInBounds_toArray, List.set_cons_zero, List.set_cons_succ]
            refine wpAnyH_done (by kernel_rfl) ?_ _
            go_wp2_with fail
            go_meet
            exact ⟨gy, A5, c5, B5, d5, rfl, rfl, rfl, HF1, HF2, HF3, HF4, HF5, hgy1, hgy2⟩
          refine AllReadyH.cons (o := ⟨some 15, _, _, _, _, _⟩) rfl (fun K hK => ?_) AllReadyH.nil
          go_simp
          obtain ⟨wm, hwm⟩ : ∃ wm, (w2.alloc (.cells #[.int .i64 0, .int .i64 0, .int .i64 0, .int .i64 0, .slice none 0 0] 24)).drew = wm := ⟨_, rfl⟩
          have hmk : Has wm w2.heap.size 24 #[.int .i64 0, .int .i64 0, .int .i64 0, .int .i64 0, .slice none 0 0] := by rw [← hwm]; exact (Has.made _ _ _).draw
          have hbm : Below w2.heap.size w2 wm := by rw [← hwm]; exact below_dr11 ((Below.refl _ _).alloc (Nat.le_refl _) _)
          have hsm : w2.heap.size + 1 ≤ wm.heap.size := by rw [← hwm]; simp
          first | rw [hwm] | skip
          refine hK.out _ _ ?_ (fun hHeld => ?_)
          · exact ⟨HS1.out.under hbm HS1.out.lt, KC.out _ hbm _ _ e0, KC.out _ hbm _ _ e1, KC.out _ hbm _ _ e2_, KC.out _ hbm _ _ e3⟩
          clear hK K
          try simp only [Act.put, List.setIfInBounds_toArray, List.set_cons_zero, List.set_cons_succ]
          refine wpAnyH_ready (rs := [5]) (by kernel_rfl) (by simp) ?_
          refine AllReadyH.cons (o := ⟨some 96, _, _, _, _, _⟩) rfl (fun K hK => ?_) AllReadyH.nil
          go_simp
          go_at_call 24
          refine (HDN.out _ hbm).mono ?_
          rintro e w3 ⟨A5, c5, B5, d5, rfl, hwn, hln, hbc⟩
          go_wp2_with fail
          have hb23 : Below w2.heap.size w2 w3 := hbm.trans (hbc.mono hbm.size)
          refine hK.out _ _ ?_ (fun hHeld => ?_)
          · exact ⟨HS1.out.under hb23 HS1.out.lt, KC.out _ hb23 _ _ e0, KC.out _ hb23 _ _ e1, KC.out _ hb23 _ _ e2_, KC.out _ hb23 _ _ e3⟩
          clear hK K
          try simp only [Act.put, List.setIfInBounds_toArray, List.set_cons_zero, List.set_cons_succ]
          refine wpAnyH_take (i := 6) (oi := ⟨some 90, _, _, _, _, _⟩) (v := ?_) rfl (by kernel_rfl) (by kernel_rfl) (by kernel_rfl) (fun _ _ _ h => h) (Or.inl ⟨by rfl, ?_⟩) (by assumption) ?_
          rotate_left
          · intro w_ hSw; (try dsimp only at hSw); (obtain ⟨s0, s1, s2, s3, s4⟩ := hSw); go_simp <;> with_reducible rfl
          simp only [Act.put, List.setIfInBounds_toArray, List.set_cons_zero, List.set_cons_succ]
          refine wpAnyH_take (i := 7) (oi := ⟨some 97, _, _, _, _, _⟩) (v := ?_) rfl (by kernel_rfl) (by kernel_rfl) (by kernel_rfl) (fun _ _ _ h => h) (Or.inl ⟨by rfl, ?_⟩) (by assumption) ?_
          rotate_left
          · intro w_ hSw; (try dsimp only at hSw); (obtain ⟨s0, s1, s2, s3, s4⟩ := hSw); go_simp <;> with_reducible rfl
          simp only [Act.put, List.setIfInBounds_toArray, List.set_cons_zero, List.set_cons_succ]
          refine wpAnyH_take (i := 8) (oi := ⟨some 98, _, _, _, _, _⟩) (v := ?_) rfl (by kernel_rfl) (by kernel_rfl) (by kernel_rfl) (fun _ _ _ h => h) (Or.inl ⟨by rfl, ?_⟩) (by assumption) ?_
          rotate_left
          · intro w_ hSw; (try dsimp only at hSw); (obtain ⟨s0, s1, s2, s3, s4⟩ := hSw); go_simp <;> with_reducible rfl
          simp only [Act.put, List.setIfInBounds_toArray, List.set_cons_zero, List.set_cons_succ]
          refine wpAnyH_take (i := 9) (oi := ⟨some 99, _, _, _, _, _⟩) (v := ?_) rfl (by kernel_rfl) (by kernel_rfl) (by kernel_rfl) (fun _ _ _ h => h) (Or.inl ⟨by rfl, ?_⟩) (by assumption) ?_
          rotate_left
          · intro w_ hSw; (try dsimp only at hSw); (obtain ⟨s0, s1, s2, s3, s4⟩ := hSw); go_simp <;> with_reducible rfl
          simp only [Act.put, List.setIfInBounds_toArray, List.set_cons_zero, List.set_cons_succ]
          have hmk3 : Has w3 w2.heap.size 24 #[.int .i64 0, .int .i64 0, .int .i64 0, .int .i64 0, .slice none 0 0] := hmk.under hbc hmk.lt
          refine wpAnyH_ready (rs := [11]) (by kernel_rfl) (by simp) ?_
          refine AllReadyH.cons (o := ⟨none, _, _, _, _, _⟩) rfl (fun K hK => ?_) AllReadyH.nil
          rw [if_pos (by rfl)]
          refine wp_store_row 24 _ _ rfl (w2.heap.size) (lkC y A5 c5) (by rfl) (by rfl) 24 _ (hmk3).raw11 (by kernel_rfl) (by kernel_rfl) (by kernel_rfl) ?_
          obtain ⟨w4, hw4⟩ : ∃ w4, w3.setRow w2.heap.size (lkC y A5 c5) = w4 := ⟨_, rfl⟩
          rw [hw4]
          have hgw4 : Has w4 w2.heap.size 24 (lkC y A5 c5) := by rw [← hw4]; exact has_row11 hmk3 _
          have hg34 : w3.grownBy w4 (some w2.heap.size) := by rw [← hw4]; exact only_row11 _ _ _
          have hb24 : Below w2.heap.size w2 w4 := below_only hb23 hg34 hb23.size (Nat.le_refl _)
          refine hK.out _ _ ?_ (fun hHeld => ?_)
          · exact ⟨HS1.out.under hb24 HS1.out.lt, KC.out _ hb24 _ _ e0, KC.out _ hb24 _ _ e1, KC.out _ hb24 _ _ e2_, KC.out _ hb24 _ _ e3⟩
          clear hK K
          have HF3' := hwn.wide (Q := fun b => (b ≠ g ∧ b < w2.heap.size) ∨ (wm.heap.size ≤ b ∧ b < w3.heap.size)) (fun b hb => hb)
          have HF4' := hln.wide12 (Q := fun b => (b ≠ g ∧ b < w2.heap.size) ∨ (wm.heap.size ≤ b ∧ b < w3.heap.size)) (fun b hb => hb)
          have hf3 : WsR (fun b => b ≠ g ∧ b ≠ w2.heap.size) w4 A5 y.ws.length c5 y.ws := by rw [← hw4]; exact (HF3'.wide (fun b hb => by rcases hb with ⟨h1, h2⟩ | ⟨h1, h2⟩ <;> exact ⟨by omega, by omega⟩)).row (by rintro ⟨_, h⟩; exact h rfl) _
          have hf4 : LsR (fun b => b ≠ g ∧ b ≠ w2.heap.size) w4 B5 ag.length d5 ag := by rw [← hw4]; exact (HF4'.wide12 (fun b hb => by rcases hb with ⟨h1, h2⟩ | ⟨h1, h2⟩ <;> exact ⟨by omega, by omega⟩)).row (by rintro ⟨_, h⟩; exact h rfl) _
          obtain ⟨gy, hgy⟩ : ∃ gy, w2.heap.size = gy := ⟨_, rfl⟩
          rw [hgy] at hf3 hf4 hgw4
          rw [show (⟨w2.heap.size, 0, none⟩ : Addr) = ⟨gy, 0, none⟩ by rw [hgy]]
          have HF1 := Lib.hid (HS1.out.under hb24 HS1.out.lt); have HF2 := Lib.hid hgw4; have HF3 := Lib.hid hf3; have HF4 := Lib.hid hf4
          have HF5 := Lib.hid (HB1.out.trans (hb24.mono HB1.out.size))
          have hgy1 : w.heap.size ≤ gy := by omega
          have hgy2 : gy ≠ g := by omega
          clear hwn hln hbc hb23 hg34 hb24 hmk hmk3 hbm hsm hwm hgw4 hw4 HF3' HF4' hf3 hf4 hgy
          refine wpAnyH_take (i := 12) (oi := ⟨some 16, _, _, _, _, _⟩) (v := ?_) rfl (by kernel_rfl) (by kernel_rfl) (by kernel_rfl) (fun _ _ _ h => h) (Or.inl ⟨by rfl, ?_⟩) (by assumption) ?_
          rotate_left
          · intro w_ hSw; (try dsimp only at hSw); (obtain ⟨s0, s1, s2, s3, s4⟩ := hSw); go_simp <;> with_reducible rfl
          simp only [Act.put, List.setIfInBounds_toArray, List.set_cons_zero, List.set_cons_succ]
          refine wpAnyH_take (i := 13) (oi := ⟨some 17, _, _, _, _, _⟩) (v := ?_) rfl (by kernel_rfl) (by kernel_rfl) (by kernel_rfl) (fun _ _ _ h => h) (Or.inl ⟨by rfl, ?_⟩) (by assumption) ?_
          rotate_left
          · intro w_ hSw; (try dsimp only at hSw); (obtain ⟨s0, s1, s2, s3, s4⟩ := hSw); go_simp <;> with_reducible rfl
          simp only [Act.put, List.setIfInBounds_toArray, List.set_cons_zero, List.set_cons_succ]
          refine wpAnyH_done (by kernel_rfl) ?_ _
          go_wp2_with fail
          go_meet
          exact ⟨gy, A5, c5, B5, d5, rfl, rfl, rfl, HF1, HF2, HF3, HF4, HF5, hgy1, hgy2⟩
        case rest =>
          obtain ⟨gy, A5, c5, B5, d5, rfl, rfl, rfl, HF1, HF2, HF3, HF4, HF5, hgy1, hgy2⟩ := hcut
          clear e0 e1 e2_ e3 KC HDN HS1 HB1 hgw2 hww2
          obtain ⟨w3, hw3⟩ : ∃ w3, w3 = wc := ⟨_, rfl⟩
          subst hw3
          have hagl : ag.length ≤ 8 := hT4
          clear hT4
          have hct : told + (cntB xs ag : Nat) ≤ most ∧ 0 ≤ told := by
            have h1 := HT2.out.2.2.2.1
            have h2 := HT0_.out
            exact ⟨h1, h2⟩
          have HCT := Lib.hid hct
          clear hct
          go_wp2
          go_loopg [13, 18] ag.length (fun kk2 v13 v18 wl => ∃ k : Nat, k ≤ ag.length ∧ ag.length - k ≤ kk2 ∧ v18 = .int .i64 k ∧ v13 = .int .i64 (told + (cntB xs (ag.take k) : Nat)) ∧ Hid (Has wl g 24 (lkC x A3 c3)) ∧ Hid (Has wl gy 24 (lkC y A5 c5)) ∧ Hid (WsR (fun b => b ≠ g ∧ b ≠ gy) wl A5 y.ws.length c5 y.ws) ∧ Hid (LsR (fun b => b ≠ g ∧ b ≠ gy) wl B5 ag.length d5 ag) ∧ Hid (Below w.heap.size w wl))
          case atStart => exact ⟨0, by omega, by omega, rfl, by simp [cntB], HF1, HF2, HF3, HF4, HF5⟩
          case round =>
            obtain ⟨k, hk, hkk, rfl, rfl, HE1, HE2, HE3, HE4, HE5⟩ := hrel
            clear HF1 HF2 HF3 HF4 HF5
            by_cases hkl : k < ag.length
            · obtain ⟨a, ha⟩ : ∃ a, ag[k]? = some a := ⟨_, List.getElem?_eq_getElem hkl⟩
              obtain ⟨bk2, off2, v2, hB5, hv2, f0⟩ := HE4.out.at_ ha
              subst hB5
              have hv2' := hv2
              obtain ⟨VB, vd, rfl, -⟩ := hv2'
              have h8a : (∀ z ∈ a, z < 256) := by obtain ⟨_, _, _, _, h1, _⟩ := hv2; exact h1
              have hsb := str8_beq12 h8a H8.out
              have hcs := cnt_step (b := xs) ha
              have hcl := cnt_le xs (ag.take k)
              have htl : (ag.take k).length = k := by rw [List.length_take]; omega
              rw [htl] at hcl
              have HCS := Lib.hid hcs
              have HV2 := Lib.hid hv2
              have hct := HCT.out
              have z0 : (0 : Int) ≤ k := by omega
              have z1 : (k : Int) < ag.length := by omega
              clear hcs hv2 h8a htl ha
              go_upto_region 19 with fail
              by_cases hax : a = xs
              · rw [decide_eq_true hax] at hsb
                have hc2 : cntB xs (ag.take (k + 1)) = cntB xs (ag.take k) + 1 := by rw [HCS.out, if_pos hax]
                have HC2 := Lib.hid hc2
                clear hc2 HCS hax
                have r1 : wrap64 (told + (cntB xs (ag.take k) : Nat) + 1) = told + (cntB xs (ag.take k) : Nat) + 1 := IntWalk.wrap64_in _ (by omega)
                have r0 : 0 ≤ told + (cntB xs (ag.take k) : Nat) ∧ told + (cntB xs (ag.take k) : Nat) ≤ 28 := by omega
                obtain ⟨r2, r3⟩ := r0
                have hgen : ∃ T : Int, told + (cntB xs (ag.take k) : Nat) = T := ⟨_, rfl⟩
                refine wp_region_held_drew (S := (fun w' => w'.cell? ⟨bk2, off2 + k, none⟩ = some (.slice VB a.length vd) ∧ (convert 25 9 (.slice VB a.length vd)).run Try.prog w' = .ok (.string (str8 a)) w' ∧ (convert 25 9 (.slice B xs.length d)).run Try.prog w' = .ok (.string (str8 xs)) w')) (by kernel_rfl) ?_ (fun hHeld => ?_)
                · exact ⟨f0, (HV2.out.under (below_dr11 (Below.refl _ _))).conv, (HBX.out.under (below_dr11 HE5.out)).conv⟩
                refine wpAnyH_take (i := 0) (oi := ⟨some 106, _, _, _, _, _⟩) (v := ?_) rfl (by kernel_rfl) (by kernel_rfl) (by kernel_rfl) (fun _ _ _ h => h) (Or.inl ⟨by rfl, ?_⟩) (by assumption) ?_
                rotate_left
                · intro w_ hSw; (try dsimp only at hSw); (obtain ⟨s0, s1, s2⟩ := hSw); go_simp <;> with_reducible rfl
                simp only [Act.put, List.setIfInBounds_toArray, List.set_cons_zero, List.set_cons_succ]
                refine wpAnyH_take (i := 1) (oi := ⟨some 107, _, _, _, _, _⟩) (v := ?_) rfl (by kernel_rfl) (by kernel_rfl) (by kernel_rfl) (fun _ _ _ h => h) (Or.inl ⟨by rfl, ?_⟩) (by assumption) ?_
                rotate_left
                · intro w_ hSw; (try dsimp only at hSw); (obtain ⟨s0, s1, s2⟩ := hSw); go_simp <;> with_reducible rfl
                simp only [Act.put, List.setIfInBounds_toArray, List.set_cons_zero, List.set_cons_succ]
                refine wpAnyH_take (i := 2) (oi := ⟨some 108, _, _, _, _, _⟩) (v := ?_) rfl (by kernel_rfl) (by kernel_rfl) (by kernel_rfl) (fun _ _ _ h => h) (Or.inl ⟨by rfl, ?_⟩) (by assumption) ?_
                rotate_left
                · intro w_ hSw; (try dsimp only at hSw); (obtain ⟨s0, s1, s2⟩ := hSw); go_simp <;> with_reducible rfl
                simp only [Act.put, List.setIfInBounds_toArray, List.set_cons_zero, List.set_cons_succ]
                refine wpAnyH_take (i := 3) (oi := ⟨some 109, _, _, _, _, _⟩) (v := ?_) rfl (by kernel_rfl) (by kernel_rfl) (by kernel_rfl) (fun _ _ _ h => h) (Or.inl ⟨by rfl, ?_⟩) (by assumption) ?_
                rotate_left
                · intro w_ hSw; (try dsimp only at hSw); (obtain ⟨s0, s1, s2⟩ := hSw); go_simp <;> with_reducible rfl
                simp only [Act.put, List.setIfInBounds_toArray, List.set_cons_zero, List.set_cons_succ]
                refine wpAnyH_take (i := 4) (oi := ⟨some 110, _, _, _, _, _⟩) (v := ?_) rfl (by kernel_rfl) (by kernel_rfl) (by kernel_rfl) (fun _ _ _ h => h) (Or.inl ⟨by rfl, ?_⟩) (by assumption) ?_
                rotate_left
                · intro w_ hSw; (try dsimp only at hSw); (obtain ⟨s0, s1, s2⟩ := hSw); go_simp <;> with_reducible rfl
                simp only [Act.put, List.setIfInBounds_toArray, List.set_cons_zero, List.set_cons_succ]
                refine wpAnyH_take (i := 5) (oi := ⟨some 111, _, _, _, _, _⟩) (v := ?_) rfl (by kernel_rfl) (by kernel_rfl) (by kernel_rfl) (fun _ _ _ h => h) (Or.inl ⟨by rfl, ?_⟩) (by assumption) ?_
                rotate_left
                · intro w_ hSw; (try dsimp only at hSw); (obtain ⟨s0, s1, s2⟩ := hSw); go_simp <;> with_reducible rfl
                simp only [Act.put, List.setIfInBounds_toArray, List.set_cons_zero, List.set_cons_succ]
                refine wpAnyH_take (i := 6) (oi := ⟨some 112, _, _, _, _, _⟩) (v := ?_) rfl (by kernel_rfl) (by kernel_rfl) (by kernel_rfl) (fun _ _ _ h => h) (Or.inl ⟨by rfl, ?_⟩) (by assumption) ?_
                rotate_left
                · intro w_ hSw; (try dsimp only at hSw); (obtain ⟨s0, s1, s2⟩ := hSw); go_simp <;> with_reducible rfl
                simp only [Act.put, List.setIfInBounds_toArray, List.set_cons_zero, List.set_cons_succ]
                refine wpAnyH_take (i := 7) (oi := ⟨some 113, _, _, _, _, _⟩) (v := ?_) rfl (by kernel_rfl) (by kernel_rfl) (by kernel_rfl) (fun _ _ _ h => h) (Or.inl ⟨by rfl, ?_⟩) (by assumption) ?_
                rotate_left
                · intro w_ hSw; (try dsimp only at hSw); (obtain ⟨s0, s1, s2⟩ := hSw); go_simp <;> with_reducible rfl
                simp only [Act.put, List.setIfInBounds_toArray, List.set_cons_zero, List.set_cons_succ]
                refine wpAnyH_done (by kernel_rfl) ?_ _
                have HG1 := Lib.hid HE1.out.draw; have HG2 := Lib.hid HE2.out.draw; have HG3 := Lib.hid (HE3.out.under (below_dr11 (Below.refl _ _))); have HG4 := Lib.hid (HE4.out.under (below_dr11 (Below.refl _ _))); have HG5 := Lib.hid (below_dr11 HE5.out)
                clear f0 hsb hHeld HV2 HE1 HE2 HE3 HE4 HE5
                obtain ⟨T, hT⟩ := hgen
                rw [hT] at r1 r2 r3 ⊢
                have HTT := Lib.hid hT
                clear hT
                go_wp2
                go_roundg (gk - 1)
                case measure => omega
                case rel => exact ⟨k + 1, by omega, by omega, by go_num, by rw [HC2.out, Int.natCast_add, ← Int.add_assoc, HTT.out]; go_num, HG1, HG2, HG3, HG4, HG5⟩
              · rw [decide_eq_false hax] at hsb
                have hc2 : cntB xs (ag.take (k + 1)) = cntB xs (ag.take k) := by rw [HCS.out, if_neg hax]; rfl
                have HC2 := Lib.hid hc2
                clear hc2 HCS hax
                refine wp_region_held_drew (S := (fun w' => w'.cell? ⟨bk2, off2 + k, none⟩ = some (.slice VB a.length vd) ∧ (convert 25 9 (.slice VB a.length vd)).run Try.prog w' = .ok (.string (str8 a)) w' ∧ (convert 25 9 (.slice B xs.length d)).run Try.prog w' = .ok (.string (str8 xs)) w')) (by kernel_rfl) ?_ (fun hHeld => ?_)
                · exact ⟨f0, (HV2.out.under (below_dr11 (Below.refl _ _))).conv, (HBX.out.under (below_dr11 HE5.out)).conv⟩
                refine wpAnyH_take (i := 0) (oi := ⟨some 106, _, _, _, _, _⟩) (v := ?_) rfl (by kernel_rfl) (by kernel_rfl) (by kernel_rfl) (fun _ _ _ h => h) (Or.inl ⟨by rfl, ?_⟩) (by assumption) ?_
                rotate_left
                · intro w_ hSw; (try dsimp only at hSw); (obtain ⟨s0, s1, s2⟩ := hSw); go_simp <;> with_reducible rfl
                simp only [Act.put, List.setIfInBounds_toArray, List.set_cons_zero, List.set_cons_succ]
                refine wpAnyH_take (i := 1) (oi := ⟨some 107, _, _, _, _, _⟩) (v := ?_) rfl (by kernel_rfl) (by kernel_rfl) (by kernel_rfl) (fun _ _ _ h => h) (Or.inl ⟨by rfl, ?_⟩) (by assumption) ?_
                rotate_left
                · intro w_ hSw; (try dsimp only at hSw); (obtain ⟨s0, s1, s2⟩ := hSw); go_simp <;> with_reducible rfl
                simp only [Act.put, List.setIfInBounds_toArray, List.set_cons_zero, List.set_cons_succ]
                refine wpAnyH_take (i := 2) (oi := ⟨some 108, _, _, _, _, _⟩) (v := ?_) rfl (by kernel_rfl) (by kernel_rfl) (by kernel_rfl) (fun _ _ _ h => h) (Or.inl ⟨by rfl, ?_⟩) (by assumption) ?_
                rotate_left
                · intro w_ hSw; (try dsimp only at hSw); (obtain ⟨s0, s1, s2⟩ := hSw); go_simp <;> with_reducible rfl
                simp only [Act.put, List.setIfInBounds_toArray, List.set_cons_zero, List.set_cons_succ]
                refine wpAnyH_take (i := 3) (oi := ⟨some 109, _, _, _, _, _⟩) (v := ?_) rfl (by kernel_rfl) (by kernel_rfl) (by kernel_rfl) (fun _ _ _ h => h) (Or.inl ⟨by rfl, ?_⟩) (by assumption) ?_
                rotate_left
                · intro w_ hSw; (try dsimp only at hSw); (obtain ⟨s0, s1, s2⟩ := hSw); go_simp <;> with_reducible rfl
                simp only [Act.put, List.setIfInBounds_toArray, List.set_cons_zero, List.set_cons_succ]
                refine wpAnyH_take (i := 4) (oi := ⟨some 110, _, _, _, _, _⟩) (v := ?_) rfl (by kernel_rfl) (by kernel_rfl) (by kernel_rfl) (fun _ _ _ h => h) (Or.inl ⟨by rfl, ?_⟩) (by assumption) ?_
                rotate_left
                · intro w_ hSw; (try dsimp only at hSw); (obtain ⟨s0, s1, s2⟩ := hSw); go_simp <;> with_reducible rfl
                simp only [Act.put, List.setIfInBounds_toArray, List.set_cons_zero, List.set_cons_succ]
                refine wpAnyH_take (i := 5) (oi := ⟨some 111, _, _, _, _, _⟩) (v := ?_) rfl (by kernel_rfl) (by kernel_rfl) (by kernel_rfl) (fun _ _ _ h => h) (Or.inl ⟨by rfl, ?_⟩) (by assumption) ?_
                rotate_left
                · intro w_ hSw; (try dsimp only at hSw); (obtain ⟨s0, s1, s2⟩ := hSw); go_simp <;> with_reducible rfl
                simp only [Act.put, List.setIfInBounds_toArray, List.set_cons_zero, List.set_cons_succ]
                refine wpAnyH_take (i := 6) (oi := ⟨some 112, _, _, _, _, _⟩) (v := ?_) rfl (by kernel_rfl) (by kernel_rfl) (by kernel_rfl) (fun _ _ _ h => h) (Or.inl ⟨by rfl, ?_⟩) (by assumption) ?_
                rotate_left
                · intro w_ hSw; (try dsimp only at hSw); (obtain ⟨s0, s1, s2⟩ := hSw); go_simp <;> with_reducible rfl
                simp only [Act.put, List.setIfInBounds_toArray, List.set_cons_zero, List.set_cons_succ]
                refine wpAnyH_take (i := 7) (oi := ⟨some 113, _, _, _, _, _⟩) (v := ?_) rfl (by kernel_rfl) (by kernel_rfl) (by kernel_rfl) (fun _ _ _ h => h) (Or.inl ⟨by rfl, ?_⟩) (by assumption) ?_
                rotate_left
                · intro w_ hSw; (try dsimp only at hSw); (obtain ⟨s0, s1, s2⟩ := hSw); go_simp <;> with_reducible rfl
                simp only [Act.put, List.setIfInBounds_toArray, List.set_cons_zero, List.set_cons_succ]
                refine wpAnyH_done (by kernel_rfl) ?_ _
                have HG1 := Lib.hid HE1.out.draw; have HG2 := Lib.hid HE2.out.draw; have HG3 := Lib.hid (HE3.out.under (below_dr11 (Below.refl _ _))); have HG4 := Lib.hid (HE4.out.under (below_dr11 (Below.refl _ _))); have HG5 := Lib.hid (below_dr11 HE5.out)
                clear f0 hsb hHeld HV2 HE1 HE2 HE3 HE4 HE5
                go_wp2
                go_roundg (gk - 1)
                case measure => omega
                case rel => exact ⟨k + 1, by omega, by omega, by go_num, by rw [HC2.out], HG1, HG2, HG3, HG4, HG5⟩
            have hke : k = ag.length := by omega
            have z1 : ¬ (k : Int) < ag.length := by omega
            have hta : ag.take k = ag := by rw [hke]; exact List.take_length
            have HTA := Lib.hid hta
            clear hta hke
            have hyl := may_light HT2.out.1
            have hym := HT2.out.1
            have HKM := Lib.hid (olk_may y A5 c5 wr HE3.out hyl)
            rw [hym] at HKM
            have hct := HCT.out
            obtain ⟨T, hT⟩ : ∃ T : Int, told + (cntB xs ag : Nat) = T := ⟨_, rfl⟩
            rw [hT] at hct HT2
            have HTT := Lib.hid hT
            clear hT hyl hym
            have c1 : ¬ most < T := by omega
            have c2_ : decide (most < T) = false := decide_eq_false c1
            have hl3 := HT3.out
            skip
            go_upto_region 21 with fail
            rw [HTA.out, HTT.out]
            clear z1
            go_wp2_with ((with_reducible refine at_slot11 120 ?_); refine wpList_load_rowW11 (o := ⟨some 120, _, _, _, _, _⟩) 24 _ rfl (by kernel_rfl) (gy) rfl 24 (lkC y A5 c5) (0, 0) _ (HE2.out).raw11 Try.underlying24 rfl (by kernel_rfl) ?_)
            refine HKM.out.mono ?_
            rintro e w6 ⟨rfl, hb6⟩
            have HS6 := Lib.hid (HE1.out.under hb6 HE1.out.lt); have HY6 := Lib.hid (HE2.out.under hb6 HE2.out.lt); have HW6 := Lib.hid (HE3.out.under hb6); have HB6 := Lib.hid (HE5.out.trans (hb6.mono HE5.out.size))
            clear hb6 HE1 HE2 HE3 HE4 HE5 HKM
            have HS7 := Lib.hid (has_row11 HS6.out (lkC y A5 c5)); have HW7 : Hid (WsR (fun b => b ≠ g) (w6.setRow g (lkC y A5 c5)) A5 y.ws.length c5 y.ws) := Lib.hid ((HW6.out.row (g := g) (fun h_ => h_.1 rfl) (lkC y A5 c5)).wide (fun b hb => hb.1)); have HB7 := Lib.hid (below_row (g := g) HB6.out hgw (lkC y A5 c5))
            cases lost with
            | true =>
              have hl4 : ag.length = 0 := hl3 rfl
              have c3_ : ¬ (0 : Int) < (ag.length : Int) := by omega
              have c4_ : decide ((0 : Int) < (ag.length : Int)) = false := decide_eq_false c3_
              clear hl4 hl3
              go_wp2_with (first | (with_reducible refine wpList_load_row (o := ⟨some 148, _, _, _, _, _⟩) rfl 24 _ rfl (gy) rfl 24 (lkC y A5 c5) (0, 0) _ (HY6.out).raw11 Try.underlying24 rfl (by kernel_rfl) ?_) | (with_reducible refine wpList_store_rowTo (o := ⟨none, _, _, _, _, _⟩) rfl 24 _ _ rfl rfl (g) (lkC y A5 c5) rfl rfl 24 _ (HS6.out).raw11 (by kernel_rfl) (by kernel_rfl) (by kernel_rfl) ?_))
              go_roundg (gk1 - 1)
              case measure => omega
              case rel => exact ⟨i + 1, T, y, A5, c5, by omega, by omega, by go_num, rfl, HT2, HS7, HW7, HB7⟩
            | false =>
              clear hl3
              go_wp2_with (first | (with_reducible refine wpList_load_row (o := ⟨some 148, _, _, _, _, _⟩) rfl 24 _ rfl (gy) rfl 24 (lkC y A5 c5) (0, 0) _ (HY6.out).raw11 Try.underlying24 rfl (by kernel_rfl) ?_) | (with_reducible refine wpList_store_rowTo (o := ⟨none, _, _, _, _, _⟩) rfl 24 _ _ rfl rfl (g) (lkC y A5 c5) rfl rfl 24 _ (HS6.out).raw11 (by kernel_rfl) (by kernel_rfl) (by kernel_rfl) ?_))
              go_roundg (gk1 - 1)
              case measure => omega
              case rel => exact ⟨i + 1, T, y, A5, c5, by omega, by omega, by go_num, rfl, HT2, HS7, HW7, HB7⟩
end Go.Proofs.Ytbohoejikihnfaa
