/-
  linesidelaw11.StampRises, walked.
-/
import Derived.Test.YtjfndnpjcicogaaSpEq
import Derived.Test.YtjfndnpjcicogaaOpenSp
import Derived.Test.YtjfndnpjcicogaaLawStampWide
import Derived.BigQuiet
namespace Go.Proofs.Ytjfndnpjcicogaa
open Go.RowKit
open Go.Great

set_option maxRecDepth 100000 in
set_option maxHeartbeats 8000000 in
theorem stampRises_walk (a b : Int) (A : Option Addr) (n c : Nat) (l : List Cm) (w : World) (_wa : (Lit.int .i64 a).wf = true) (_wb : (Lit.int .i64 b).wf = true) (hl : InCame w A n l) :
    Calls Try.prog 5 #[.int .i64 a, .int .i64 b, .slice A n c] w fun e w' => e = .returned (.bool true) ∧ Below w.heap.size w w' := by
  have hN := fun W => new_any a b W
  unfold stE stV at hN
  have HN := Lib.hid hN
  have HAW := Lib.hid (awake11_any w)
  have HL := Lib.hid (fun W (hW : Below w.heap.size w W) (j : Nat) (hj : j < n) => came_low hl hW hj)
  clear hN hl
  go_enter Try.func5, Try.ntmps5
  have HB0 : Hid (Below w.heap.size w w) := Lib.hid (Below.refl _ _)
  obtain s0 := HB0.out
  have HK := Lib.hid (HAW.out)
  clear s0
  go_wp2_with fail
  refine HK.out.mono ?_
  rintro e v1 ⟨rfl, hb1⟩
  obtain s0 := HB0.out
  have hbn : Below w.heap.size w v1 := hb1
  have HB1 : Hid (Below w.heap.size w v1) := Lib.hid (s0.trans (hbn.mono s0.size))
  clear s0
  clear HK HB0 HAW hb1
  clear hbn
  obtain s0 := HB1.out
  have HK := Lib.hid (HN.out v1)
  clear s0
  go_wp2_with fail
  refine HK.out.mono ?_
  rintro e v2 ⟨rfl, hb1⟩
  obtain s0 := HB1.out
  have hbn : Below v1.heap.size v1 v2 := hb1
  have HB2 : Hid (Below w.heap.size w v2) := Lib.hid (s0.trans (hbn.mono s0.size))
  clear s0
  clear HK HB1 HN hb1
  clear hbn
  obtain s0 := HB2.out
  have le2_2 : w.heap.size ≤ v2.heap.size := s0.size
  have HS0 : Hid (Has (v2.alloc (.cells #[.int .i64 0, .int .i64 0, .int .i64 0, .bool false] 23)) (v2.heap.size) 23 #[.int .i64 0, .int .i64 0, .int .i64 0, .bool false]) := Lib.hid (Has.made v2 23 #[.int .i64 0, .int .i64 0, .int .i64 0, .bool false])
  obtain ⟨v3, hv3⟩ : ∃ v3, (v2.alloc (.cells #[.int .i64 0, .int .i64 0, .int .i64 0, .bool false] 23)).setRow (v2.heap.size) (stA (newS a b)) = v3 := ⟨_, rfl⟩
  have hbw : Below v2.heap.size v2 v3 := by rw [← hv3]; exact (below_row (g := v2.heap.size) (Below.alloc (Below.refl v2.heap.size v2) (Nat.le_refl _) (.cells #[.int .i64 0, .int .i64 0, .int .i64 0, .bool false] 23)) (by omega) (stA (newS a b)))
  have HB3 : Hid (Has v3 (v2.heap.size) 23 (stA (newS a b)) ∧ Below w.heap.size w v3) := Lib.hid ⟨(by rw [← hv3]; exact (has_row11 (Has.made v2 23 #[.int .i64 0, .int .i64 0, .int .i64 0, .bool false]) (stA (newS a b)))), s0.trans (hbw.mono s0.size)⟩
  clear hbw
  have HWv3 := Lib.hid hv3
  clear s0
  clear hv3 HB2
  go_upto_region 3 with (first | (with_reducible refine wpList_store_rowTo (o := ⟨none, _, _, _, _, _⟩) rfl 23 _ _ rfl rfl (v2.heap.size) (stA (newS a b)) rfl rfl 23 _ (HS0.out).raw11 (by kernel_rfl) (by kernel_rfl) (by kernel_rfl) ?_))
  rw [HWv3.out]
  clear HWv3 HS0
  obtain ⟨s0, s1⟩ := HB3.out
  have HS := Lib.hid s0; have HBL := Lib.hid s1
  have HG : w.heap.size ≤ v2.heap.size := le2_2
  clear s0 s1
  clear HB3 le2_2
  by_cases hnew : isT a = true ∧ isT b = true
  rotate_left
  · have he : newE a b = 1 := by unfold newE; rw [if_neg hnew]
    rw [he]
    clear he hnew HS HL HG
    go_wp2
    go_ret
    exact ⟨rfl, HBL.out⟩
  have he : newE a b = 0 := by unfold newE; rw [if_pos hnew]
  have hs : newS a b = ⟨-1, a, b, false⟩ := by unfold newS; rw [if_pos hnew]
  rw [he]
  rw [hs] at HS
  clear he hs hnew
  by_cases hlen : (200 : Int) < n
  · clear HS HL HG
    go_wp2
    go_ret
    exact ⟨rfl, HBL.out⟩
  obtain ⟨g, hg⟩ : ∃ g, v2.heap.size = g := ⟨_, rfl⟩
  rw [hg] at HS HG
  simp only [hg]
  obtain ⟨w0, hw0⟩ : ∃ w0, v3 = w0 := ⟨_, rfl⟩
  rw [hw0] at HS HBL
  rw [hw0]
  clear hg hw0
  go_wp2
  go_loopg [10, 11, 12] n (fun kk v10 v11 v12 wl => ∃ (j : Nat) (last : Int) (fr : Bool), j ≤ n ∧ n - j ≤ kk ∧ v10 = .int .i64 last ∧ v11 = .bool fr ∧ v12 = .int .i64 j ∧ Has wl g 23 (stA ⟨last, a, b, fr⟩) ∧ Below w.heap.size w wl)
  case atStart => exact ⟨0, -1, false, by omega, by omega, rfl, rfl, rfl, HS.out, HBL.out⟩
  case round =>
    obtain ⟨j, last, fr, hj, hjk, rfl, rfl, rfl, hs, hbl⟩ := hrel
    have HS1 := Lib.hid hs; have HBL1 := Lib.hid hbl
    clear hs hbl HS HBL
    by_cases hlt : j < n
    rotate_left
    · have x1 : ¬ (j : Int) < n := by omega
      clear hlt hj hjk HL HG HS1
      go_wp2
      go_ret
      exact ⟨rfl, HBL1.out⟩
    have x1 : (j : Int) < n := by omega
    have x0 : (0 : Int) ≤ j := by omega
    obtain ⟨bk, off, rfl, hbk, q0, q1, q2⟩ := HL.out _ HBL1.out j hlt
    have HC := Lib.hid (fun W (hW : Below w.heap.size w W) => (by obtain ⟨_, _, e, _, h0, h1, _⟩ := HL.out W hW j hlt; injection e with e; injection e with e1 e2 _; subst e1 e2; exact ⟨h0, h1⟩ : W.cell? ⟨bk, off + j * 3, none⟩ = some (.int .i64 (l.getD j cm0).t) ∧ W.cell? ⟨bk, off + j * 3 + 1, none⟩ = some (.int .i64 (l.getD j cm0).now)))
    generalize l.getD j cm0 = x at *
    obtain ⟨T, now, fx⟩ := x
    dsimp only at *
    clear q0 q1
    cases fx with
    | true =>
      have hr := rel_any ⟨last, a, b, fr⟩ wr
      unfold stV relS at hr
      dsimp only at hr
      have HR := Lib.hid hr
      clear hr
      go_wp2_with (with_reducible refine wpList_load_row (o := ⟨some 45, _, _, _, _, _⟩) rfl 23 _ rfl (g) rfl 23 (stA ⟨last, a, b, fr⟩) (0, 0) _ (HS1.out).raw11 Try.underlying23 rfl (by kernel_rfl) ?_)
      refine HR.out.mono ?_
      rintro e0 w2 ⟨rfl, hb2⟩
      have HS1b := Lib.hid (HS1.out.under hb2 HS1.out.lt)
      obtain ⟨w3, hw3⟩ : ∃ w3, w2.setRow g (stA ⟨last, a, b, true⟩) = w3 := ⟨_, rfl⟩
      have hs2 : Has w3 g 23 (stA ⟨last, a, b, true⟩) := by rw [← hw3]; exact has_row11 HS1b.out _
      have hbl2 : Below w.heap.size w w3 := by rw [← hw3]; exact below_row (g := g) (HBL1.out.trans (hb2.mono HBL1.out.size)) HG _
      have HS2 := Lib.hid hs2; have HBL2 := Lib.hid hbl2; have HW3 := Lib.hid hw3
      clear hs2 hbl2 hw3 hb2 HR q2
      go_upto_region 12 with (with_reducible refine wpList_store_rowTo (o := ⟨none, _, _, _, _, _⟩) rfl 23 _ _ rfl rfl (g) (stA ⟨last, a, b, true⟩) rfl rfl 23 _ (HS1b.out).raw11 (by kernel_rfl) (by kernel_rfl) (by kernel_rfl) ?_)
      rw [HW3.out]
      clear HW3 HS1b HS1 HBL1
      have hT := fun W => take_any ⟨last, a, b, true⟩ T now W
      have hz := take_zero ⟨last, a, b, true⟩ T now
      have hbad : takeE ⟨last, a, b, true⟩ T now ≠ 0 → takeS ⟨last, a, b, true⟩ T now = stp0 := fun h => by unfold takeS; rw [if_neg h]
      have hok : takeE ⟨last, a, b, true⟩ T now = 0 → takeS ⟨last, a, b, true⟩ T now = ⟨T, a, b, false⟩ := fun h => by unfold takeS; rw [if_pos h]
      unfold stE stV at hT
      generalize takeS ⟨last, a, b, true⟩ T now = r at *
      generalize takeE ⟨last, a, b, true⟩ T now = e at *
      have HT := Lib.hid hT; have HZ := Lib.hid hz; have HBAD := Lib.hid hbad; have HOK := Lib.hid hok
      clear hT hz hbad hok
      go_upto_region 13 with fail
      skip
      go_cut [13, 14] (fun s13 s14 wx => ∃ gx, s13 = .pointer (some ⟨gx, 0, none⟩) ∧ s14 = .int .i64 e ∧ g < gx ∧ Has wx (g) 23 (stA ⟨last, a, b, true⟩) ∧ Below w.heap.size w wx ∧ Has wx (gx) 23 (stA r))
      case first =>
        refine wp_region_held_drew (S := (fun W_ => Has W_ (g) 23 (stA ⟨last, a, b, true⟩) ∧ Below w.heap.size w W_)) (by kernel_rfl) ?_ (fun hHeld => ?_)
        · exact ⟨HS2.out.draw, below_dr11 HBL2.out⟩
        refine wpAnyH_take (i := 0) (oi := ⟨some 48, _, _, _, _, _⟩) (v := .agg (stA ⟨last, a, b, true⟩)) rfl (by kernel_rfl) (by kernel_rfl) (by kernel_rfl) (fun _ _ _ h => h) (yields_load_row11 23 _ rfl (g) rfl 23 (stA ⟨last, a, b, true⟩) _ (fun _ ⟨h_, _⟩ => h_) Try.underlying23 rfl (by kernel_rfl) (by rfl)) (by assumption) ?_
        simp only [Act.put, List.setIfInBounds_toArray, List.set_cons_zero, List.set_cons_succ]
        refine wpAnyH_take (i := 1) (oi := ⟨some 49, _, _, _, _, _⟩) (v := ?_) rfl (by kernel_rfl) (by kernel_rfl) (by kernel_rfl) (fun _ _ _ h => h) (Or.inl ⟨by rfl, ?_⟩) (by assumption) ?_
        rotate_left
        · intro w_ hSw; (try dsimp only at hSw); go_simp <;> with_reducible rfl
        simp only [Act.put, List.setIfInBounds_toArray, List.set_cons_zero, List.set_cons_succ]
        refine wpAnyH_take (i := 2) (oi := ⟨some 50, _, _, _, _, _⟩) (v := ?_) rfl (by kernel_rfl) (by kernel_rfl) (by kernel_rfl) (fun _ _ _ h => h) (Or.inl ⟨by rfl, ?_⟩) (by assumption) ?_
        rotate_left
        · intro w_ hSw; (try dsimp only at hSw); go_simp <;> with_reducible rfl
        simp only [Act.put, List.setIfInBounds_toArray, List.set_cons_zero, List.set_cons_succ]
        refine wpAnyH_take (i := 3) (oi := ⟨some 51, _, _, _, _, _⟩) (v := ?_) rfl (by kernel_rfl) (by kernel_rfl) (by kernel_rfl) (fun _ _ _ h => h) (Or.inl ⟨by rfl, ?_⟩) (by assumption) ?_
        rotate_left
        · intro w_ hSw; (try dsimp only at hSw); go_simp <;> with_reducible rfl
        simp only [Act.put, List.setIfInBounds_toArray, List.set_cons_zero, List.set_cons_succ]
        refine wpAnyH_take (i := 4) (oi := ⟨some 52, _, _, _, _, _⟩) (v := ?_) rfl (by kernel_rfl) (by kernel_rfl) (by kernel_rfl) (fun _ _ _ h => h) (Or.inl ⟨by rfl, ?_⟩) (by assumption) ?_
        rotate_left
        · intro w_ hSw; (try dsimp only at hSw); go_simp <;> with_reducible rfl
        simp only [Act.put, List.setIfInBounds_toArray, List.set_cons_zero, List.set_cons_succ]
        refine wpAnyH_take (i := 5) (oi := ⟨some 53, _, _, _, _, _⟩) (v := ?_) rfl (by kernel_rfl) (by kernel_rfl) (by kernel_rfl) (fun _ _ _ h => h) (Or.inl ⟨by rfl, ?_⟩) (by assumption) ?_
        rotate_left
        · intro w_ hSw; (try dsimp only at hSw); obtain ⟨c0_, _⟩ := HC.out w_ hSw.2; go_simp <;> with_reducible rfl
        simp only [Act.put, List.setIfInBounds_toArray, List.set_cons_zero, List.set_cons_succ]
        refine wpAnyH_take (i := 6) (oi := ⟨some 54, _, _, _, _, _⟩) (v := ?_) rfl (by kernel_rfl) (by kernel_rfl) (by kernel_rfl) (fun _ _ _ h => h) (Or.inl ⟨by rfl, ?_⟩) (by assumption) ?_
        rotate_left
        · intro w_ hSw; (try dsimp only at hSw); go_simp <;> with_reducible rfl
        simp only [Act.put, List.setIfInBounds_toArray, List.set_cons_zero, List.set_cons_succ]
        refine wpAnyH_take (i := 7) (oi := ⟨some 55, _, _, _, _, _⟩) (v := ?_) rfl (by kernel_rfl) (by kernel_rfl) (by kernel_rfl) (fun _ _ _ h => h) (Or.inl ⟨by rfl, ?_⟩) (by assumption) ?_
        rotate_left
        · intro w_ hSw; (try dsimp only at hSw); go_simp <;> with_reducible rfl
        simp only [Act.put, List.setIfInBounds_toArray, List.set_cons_zero, List.set_cons_succ]
        refine wpAnyH_take (i := 8) (oi := ⟨some 56, _, _, _, _, _⟩) (v := ?_) rfl (by kernel_rfl) (by kernel_rfl) (by kernel_rfl) (fun _ _ _ h => h) (Or.inl ⟨by rfl, ?_⟩) (by assumption) ?_
        rotate_left
        · intro w_ hSw; (try dsimp only at hSw); go_simp <;> with_reducible rfl
        simp only [Act.put, List.setIfInBounds_toArray, List.set_cons_zero, List.set_cons_succ]
        refine wpAnyH_take (i := 9) (oi := ⟨some 57, _, _, _, _, _⟩) (v := ?_) rfl (by kernel_rfl) (by kernel_rfl) (by kernel_rfl) (fun _ _ _ h => h) (Or.inl ⟨by rfl, ?_⟩) (by assumption) ?_
        rotate_left
        · intro w_ hSw; (try dsimp only at hSw); go_simp <;> with_reducible rfl
        simp only [Act.put, List.setIfInBounds_toArray, List.set_cons_zero, List.set_cons_succ]
        refine wpAnyH_take (i := 10) (oi := ⟨some 58, _, _, _, _, _⟩) (v := ?_) rfl (by kernel_rfl) (by kernel_rfl) (by kernel_rfl) (fun _ _ _ h => h) (Or.inl ⟨by rfl, ?_⟩) (by assumption) ?_
        rotate_left
        · intro w_ hSw; (try dsimp only at hSw); obtain ⟨_, c1_⟩ := HC.out w_ hSw.2; go_simp <;> with_reducible rfl
        simp only [Act.put, List.setIfInBounds_toArray, List.set_cons_zero, List.set_cons_succ]
        refine wpAnyH_ready (rs := [11, 15]) (by kernel_rfl) (by simp) ?_
        refine AllReadyH.cons (o := ⟨some 59, _, _, _, _, _⟩) rfl (fun K hK => ?_) ?_
        · go_simp
          obtain ⟨s0, s1⟩ := hHeld
          refine (HT.out _).mono ?_
          rintro e_ vs ⟨rfl, hbs⟩
          go_wp2_with fail
          refine hK.out _ _ ?_ (fun hHeld => ?_)
          · exact ⟨s0.under hbs s0.lt, s1.trans (hbs.mono s1.size)⟩
          clear hK K s0 s1
          try simp only [Act.put, List.setIfInBounds_toArray, List.set_cons_zero, List.set_cons_succ]
          refine wpAnyH_take (i := 12) (oi := ⟨some 47, _, _, _, _, _⟩) (v := ?_) rfl (by kernel_rfl) (by kernel_rfl) (by kernel_rfl) (fun _ _ _ h => h) (Or.inl ⟨by rfl, ?_⟩) (by assumption) ?_
          rotate_left
          · intro w_ hSw; (try dsimp only at hSw); go_simp <;> with_reducible rfl
          simp only [Act.put, List.setIfInBounds_toArray, List.set_cons_zero, List.set_cons_succ]
          refine wpAnyH_take (i := 13) (oi := ⟨some 60, _, _, _, _, _⟩) (v := ?_) rfl (by kernel_rfl) (by kernel_rfl) (by kernel_rfl) (fun _ _ _ h => h) (Or.inl ⟨by rfl, ?_⟩) (by assumption) ?_
          rotate_left
          · intro w_ hSw; (try dsimp only at hSw); go_simp <;> with_reducible rfl
          simp only [Act.put, List.setIfInBounds_toArray, List.set_cons_zero, List.set_cons_succ]
          refine wpAnyH_take (i := 14) (oi := ⟨some 61, _, _, _, _, _⟩) (v := ?_) rfl (by kernel_rfl) (by kernel_rfl) (by kernel_rfl) (fun _ _ _ h => h) (Or.inl ⟨by rfl, ?_⟩) (by assumption) ?_
          rotate_left
          · intro w_ hSw; (try dsimp only at hSw); go_simp <;> with_reducible rfl
          simp only [Act.put, List.setIfInBounds_toArray, List.set_cons_zero, List.set_cons_succ]
          refine wpAnyH_ready (rs := [15]) (by kernel_rfl) (by simp) ?_
          refine AllReadyH.cons (o := ⟨some 13, _, _, _, _, _⟩) rfl (fun K hK => ?_) ?_
          · go_simp
            obtain ⟨s0, s1⟩ := hHeld
            obtain ⟨gx, hgx⟩ : ∃ gx, vs.heap.size = gx := ⟨_, rfl⟩
            have hgl : g < gx := by rw [← hgx]; exact s0.lt
            rw [hgx]
            refine hK.out _ _ ?_ (fun hHeld => ?_)
            · exact ⟨s0.beside _, below_al11 s1 _⟩
            refine wpAnyH_more11 (T := (fun W_ => Has W_ (g) 23 (stA ⟨last, a, b, true⟩) ∧ Below w.heap.size w W_ ∧ (∃ o_ : Array Value, Has W_ (gx) 23 o_ ∧ o_.size = 4))) (fun _ ⟨s0, s1, s2⟩ => ⟨s0, s1⟩) ?_
            have hHeld2 : (fun W_ => Has W_ (g) 23 (stA ⟨last, a, b, true⟩) ∧ Below w.heap.size w W_ ∧ (∃ o_ : Array Value, Has W_ (gx) 23 o_ ∧ o_.size = 4)) _ := ⟨s0.beside (.cells #[.int .i64 0, .int .i64 0, .int .i64 0, .bool false] 23), below_al11 s1 (.cells #[.int .i64 0, .int .i64 0, .int .i64 0, .bool false] 23), ⟨#[.int .i64 0, .int .i64 0, .int .i64 0, .bool false], (by rw [← hgx]; exact Has.made _ _ _), by kernel_rfl⟩⟩
            clear hHeld
            have hHeld := hHeld2
            clear hHeld2 hK K hgx s0 s1
            try simp only [Act.put, List.setIfInBounds_toArray, List.set_cons_zero, List.set_cons_succ]
            refine wpAnyH_ready (rs := [16]) (by kernel_rfl) (by simp) ?_
            refine AllReadyH.cons (o := ⟨none, _, _, _, _, _⟩) rfl (fun K hK => ?_) ?_
            · rw [if_pos (by rfl)]
              obtain ⟨s0, s1, s2⟩ := hHeld
              obtain ⟨o_, h_, e_⟩ := s2
              refine wp_store_row 23 _ _ rfl (gx) (stA r) (by rfl) (by rfl) 23 o_ h_.raw11 (by kernel_rfl) e_ (by kernel_rfl) ?_
              refine hK.out _ _ ?_ (fun hHeld => ?_)
              · exact ⟨has_rowo11 s0 (by omega) _, below_row s1 (by omega) _, ⟨_, has_row11 h_ (stA r), by kernel_rfl⟩⟩
              refine wpAnyH_more11 (T := (fun W_ => Has W_ (g) 23 (stA ⟨last, a, b, true⟩) ∧ Below w.heap.size w W_ ∧ Has W_ (gx) 23 (stA r))) (fun _ ⟨s0, s1, s2⟩ => ⟨s0, s1, ⟨_, s2, by kernel_rfl⟩⟩) ?_
              have hHeld2 : (fun W_ => Has W_ (g) 23 (stA ⟨last, a, b, true⟩) ∧ Below w.heap.size w W_ ∧ Has W_ (gx) 23 (stA r)) _ := ⟨has_rowo11 s0 (by omega) _, below_row s1 (by omega) _, has_row11 h_ (stA r)⟩
              clear hHeld
              have hHeld := hHeld2
              clear hHeld2 hK K h_ e_ s0 s1
              try simp only [Act.put]
              refine wpAnyH_take (i := 17) (oi := ⟨some 14, _, _, _, _, _⟩) (v := ?_) rfl (by kernel_rfl) (by kernel_rfl) (by kernel_rfl) (fun _ _ _ h => h) (Or.inl ⟨by rfl, ?_⟩) (by assumption) ?_
              rotate_left
              · intro w_ hSw; (try dsimp only at hSw); go_simp <;> with_reducible rfl
              simp only [Act.put, List.setIfInBounds_toArray, List.set_cons_zero, List.set_cons_succ]
              refine wpAnyH_done (by kernel_rfl) ?_ _
              go_wp2_with fail
              go_meet
              exact ⟨gx, rfl, rfl, hgl, hHeld⟩
            exact AllReadyH.nil
          exact AllReadyH.nil
        refine AllReadyH.cons (o := ⟨some 13, _, _, _, _, _⟩) rfl (fun K hK => ?_) ?_
        · go_simp
          obtain ⟨s0, s1⟩ := hHeld
          obtain ⟨gx, hgx⟩ : ∃ gx, w3.heap.size = gx := ⟨_, rfl⟩
          have hgl : g < gx := by rw [← hgx]; exact s0.lt
          rw [hgx]
          refine hK.out _ _ ?_ (fun hHeld => ?_)
          · exact ⟨s0.beside _, below_al11 s1 _⟩
          refine wpAnyH_more11 (T := (fun W_ => Has W_ (g) 23 (stA ⟨last, a, b, true⟩) ∧ Below w.heap.size w W_ ∧ (∃ o_ : Array Value, Has W_ (gx) 23 o_ ∧ o_.size = 4))) (fun _ ⟨s0, s1, s2⟩ => ⟨s0, s1⟩) ?_
          have hHeld2 : (fun W_ => Has W_ (g) 23 (stA ⟨last, a, b, true⟩) ∧ Below w.heap.size w W_ ∧ (∃ o_ : Array Value, Has W_ (gx) 23 o_ ∧ o_.size = 4)) _ := ⟨s0.beside (.cells #[.int .i64 0, .int .i64 0, .int .i64 0, .bool false] 23), below_al11 s1 (.cells #[.int .i64 0, .int .i64 0, .int .i64 0, .bool false] 23), ⟨#[.int .i64 0, .int .i64 0, .int .i64 0, .bool false], (by rw [← hgx]; exact Has.made _ _ _), by kernel_rfl⟩⟩
          clear hHeld
          have hHeld := hHeld2
          clear hHeld2 hK K hgx s0 s1
          try simp only [Act.put, List.setIfInBounds_toArray, List.set_cons_zero, List.set_cons_succ]
          refine wpAnyH_ready (rs := [11]) (by kernel_rfl) (by simp) ?_
          refine AllReadyH.cons (o := ⟨some 59, _, _, _, _, _⟩) rfl (fun K hK => ?_) ?_
          · go_simp
            obtain ⟨s0, s1, s2⟩ := hHeld
            refine (HT.out _).mono ?_
            rintro e_ vs ⟨rfl, hbs⟩
            go_wp2_with fail
            refine hK.out _ _ ?_ (fun hHeld => ?_)
            · exact ⟨s0.under hbs s0.lt, s1.trans (hbs.mono s1.size), (let ⟨o_, h_, e_⟩ := s2; ⟨o_, h_.under hbs h_.lt, e_⟩)⟩
            clear hK K s0 s1 s2
            try simp only [Act.put, List.setIfInBounds_toArray, List.set_cons_zero, List.set_cons_succ]
            refine wpAnyH_take (i := 12) (oi := ⟨some 47, _, _, _, _, _⟩) (v := ?_) rfl (by kernel_rfl) (by kernel_rfl) (by kernel_rfl) (fun _ _ _ h => h) (Or.inl ⟨by rfl, ?_⟩) (by assumption) ?_
            rotate_left
            · intro w_ hSw; (try dsimp only at hSw); go_simp <;> with_reducible rfl
            simp only [Act.put, List.setIfInBounds_toArray, List.set_cons_zero, List.set_cons_succ]
            refine wpAnyH_take (i := 13) (oi := ⟨some 60, _, _, _, _, _⟩) (v := ?_) rfl (by kernel_rfl) (by kernel_rfl) (by kernel_rfl) (fun _ _ _ h => h) (Or.inl ⟨by rfl, ?_⟩) (by assumption) ?_
            rotate_left
            · intro w_ hSw; (try dsimp only at hSw); go_simp <;> with_reducible rfl
            simp only [Act.put, List.setIfInBounds_toArray, List.set_cons_zero, List.set_cons_succ]
            refine wpAnyH_take (i := 14) (oi := ⟨some 61, _, _, _, _, _⟩) (v := ?_) rfl (by kernel_rfl) (by kernel_rfl) (by kernel_rfl) (fun _ _ _ h => h) (Or.inl ⟨by rfl, ?_⟩) (by assumption) ?_
            rotate_left
            · intro w_ hSw; (try dsimp only at hSw); go_simp <;> with_reducible rfl
            simp only [Act.put, List.setIfInBounds_toArray, List.set_cons_zero, List.set_cons_succ]
            refine wpAnyH_ready (rs := [16]) (by kernel_rfl) (by simp) ?_
            refine AllReadyH.cons (o := ⟨none, _, _, _, _, _⟩) rfl (fun K hK => ?_) ?_
            · rw [if_pos (by rfl)]
              obtain ⟨s0, s1, s2⟩ := hHeld
              obtain ⟨o_, h_, e_⟩ := s2
              refine wp_store_row 23 _ _ rfl (gx) (stA r) (by rfl) (by rfl) 23 o_ h_.raw11 (by kernel_rfl) e_ (by kernel_rfl) ?_
              refine hK.out _ _ ?_ (fun hHeld => ?_)
              · exact ⟨has_rowo11 s0 (by omega) _, below_row s1 (by omega) _, ⟨_, has_row11 h_ (stA r), by kernel_rfl⟩⟩
              refine wpAnyH_more11 (T := (fun W_ => Has W_ (g) 23 (stA ⟨last, a, b, true⟩) ∧ Below w.heap.size w W_ ∧ Has W_ (gx) 23 (stA r))) (fun _ ⟨s0, s1, s2⟩ => ⟨s0, s1, ⟨_, s2, by kernel_rfl⟩⟩) ?_
              have hHeld2 : (fun W_ => Has W_ (g) 23 (stA ⟨last, a, b, true⟩) ∧ Below w.heap.size w W_ ∧ Has W_ (gx) 23 (stA r)) _ := ⟨has_rowo11 s0 (by omega) _, below_row s1 (by omega) _, has_row11 h_ (stA r)⟩
              clear hHeld
              have hHeld := hHeld2
              clear hHeld2 hK K h_ e_ s0 s1
              try simp only [Act.put]
              refine wpAnyH_take (i := 17) (oi := ⟨some 14, _, _, _, _, _⟩) (v := ?_) rfl (by kernel_rfl) (by kernel_rfl) (by kernel_rfl) (fun _ _ _ h => h) (Or.inl ⟨by rfl, ?_⟩) (by assumption) ?_
              rotate_left
              · intro w_ hSw; (try dsimp only at hSw); go_simp <;> with_reducible rfl
              simp only [Act.put, List.setIfInBounds_toArray, List.set_cons_zero, List.set_cons_succ]
              refine wpAnyH_done (by kernel_rfl) ?_ _
              go_wp2_with fail
              go_meet
              exact ⟨gx, rfl, rfl, hgl, hHeld⟩
            exact AllReadyH.nil
          exact AllReadyH.nil
        exact AllReadyH.nil
      case rest =>
        obtain ⟨gx, rfl, rfl, hgl, hs3, hb3, hx3⟩ := hcut
        obtain ⟨d0, d1⟩ := HC.out _ hb3
        have HB3 := Lib.hid hb3; have HS3 := Lib.hid hs3; have HX3 := Lib.hid hx3
        have a0 : wc.cell? ⟨g, 0, none⟩ = some (.int .i64 last) := hs3.cell 0
        have a3 : wc.cell? ⟨g, 3, none⟩ = some (.bool true) := hs3.cell 3
        clear hs3 hb3 HT HS2 HBL2
        by_cases he : e = 0
        rotate_left
        · have he1 : (e != 0) = true := by simp [he]
          obtain rfl := HBAD.out he
          have b0 : wc.cell? ⟨gx, 0, none⟩ = some (.int .i64 0) := hx3.cell 0
          have b3 : wc.cell? ⟨gx, 3, none⟩ = some (.bool false) := hx3.cell 3
          have hl1 : (last != last) = false := by simp
          have hf1 : (true != true) = false := by simp
          clear he HZ HBAD HOK hx3 HX3
          go_wp2
          go_roundg (gk - 1)
          case measure => omega
          case rel => exact ⟨j + 1, last, true, by omega, by omega, rfl, rfl, by go_num, HS3.out, HB3.out⟩
        subst he
        obtain rfl := HOK.out rfl
        obtain ⟨hfit, hst⟩ := HZ.out.1 rfl
        have hn := fit_nums hfit
        dsimp only at hn
        have b0 : wc.cell? ⟨gx, 0, none⟩ = some (.int .i64 T) := hx3.cell 0
        have b3 : wc.cell? ⟨gx, 3, none⟩ = some (.bool false) := hx3.cell 3
        obtain ⟨f2, hf2⟩ : ∃ f2, now + a = f2 := ⟨_, rfl⟩
        obtain ⟨f1, hf1⟩ : ∃ f1, now - b = f1 := ⟨_, rfl⟩
        have hr2 : wrap64 (now + a) = f2 := by rw [← hf2]; exact IntWalk.wrap64_in _ (by omega)
        have hr1 : wrap64 (now - b) = f1 := by rw [← hf1]; exact IntWalk.wrap64_in _ (by omega)
        have hw1 : ¬ T < f1 := fun h => hst (.inl (by rw [hf1]; exact h))
        have hw2 : ¬ f2 < T := fun h => hst (.inr (.inl (by rw [hf2]; exact h)))
        have hw3 : ¬ (true = false ∧ T ≤ last) := fun h => hst (.inr (.inr h))
        have y1 : decide (T < f1) = false := decide_eq_false hw1
        have y2 : decide (f2 < T) = false := decide_eq_false hw2
        have y3 : (T != T) = false := by simp
        have HSN := Lib.hid (has_row11 HS3.out (stA ⟨T, a, b, false⟩))
        have HBN := Lib.hid (below_row (g := g) HB3.out HG (stA ⟨T, a, b, false⟩))
        clear hst hn hf1 hf2 hfit HZ HBAD HOK hx3
        by_cases y4 : T ≤ last
        rotate_left
        · have y5 : decide (T ≤ last) = false := decide_eq_false y4
          clear hw3
          go_upto_region 17 with fail
          go_quiet (fail)
          go_upto_region 20 with (first | (with_reducible refine wpList_load_row (o := ⟨some 138, _, _, _, _, _⟩) rfl 23 _ rfl (gx) rfl 23 (stA ⟨T, a, b, false⟩) (0, 0) _ (HX3.out.draws _).raw11 Try.underlying23 rfl (by kernel_rfl) ?_) | (with_reducible refine wpList_store_rowTo (o := ⟨none, _, _, _, _, _⟩) rfl 23 _ _ rfl rfl (g) (stA ⟨T, a, b, false⟩) rfl rfl 23 _ (HS3.out.draws _).raw11 (by kernel_rfl) (by kernel_rfl) (by kernel_rfl) ?_))
          have hb4 := below_row (g := g) (below_draws HB3.out nq) HG (stA ⟨T, a, b, false⟩)
          obtain ⟨d4, _⟩ := HC.out _ hb4
          clear hb4
          go_wp2
          go_roundg (gk - 1)
          case measure => omega
          case rel => exact ⟨j + 1, T, false, by omega, by omega, rfl, rfl, by go_num, has_row11 (HS3.out.draws _) _, below_row (g := g) (below_draws HB3.out _) HG _⟩
        have y5 : decide (T ≤ last) = true := decide_eq_true y4
        clear hw3
        go_upto_region 17 with fail
        go_quiet (fail)
        go_upto_region 20 with (first | (with_reducible refine wpList_load_row (o := ⟨some 138, _, _, _, _, _⟩) rfl 23 _ rfl (gx) rfl 23 (stA ⟨T, a, b, false⟩) (0, 0) _ (HX3.out.draws _).raw11 Try.underlying23 rfl (by kernel_rfl) ?_) | (with_reducible refine wpList_store_rowTo (o := ⟨none, _, _, _, _, _⟩) rfl 23 _ _ rfl rfl (g) (stA ⟨T, a, b, false⟩) rfl rfl 23 _ (HS3.out.draws _).raw11 (by kernel_rfl) (by kernel_rfl) (by kernel_rfl) ?_))
        have hb4 := below_row (g := g) (below_draws HB3.out nq) HG (stA ⟨T, a, b, false⟩)
        obtain ⟨d4, _⟩ := HC.out _ hb4
        clear hb4
        go_wp2
        go_roundg (gk - 1)
        case measure => omega
        case rel => exact ⟨j + 1, T, false, by omega, by omega, rfl, rfl, by go_num, has_row11 (HS3.out.draws _) _, below_row (g := g) (below_draws HB3.out _) HG _⟩
    | false =>
      have HS2 := HS1; have HBL2 := HBL1
      clear HS1 HBL1
      have hT := fun W => take_any ⟨last, a, b, fr⟩ T now W
      have hz := take_zero ⟨last, a, b, fr⟩ T now
      have hbad : takeE ⟨last, a, b, fr⟩ T now ≠ 0 → takeS ⟨last, a, b, fr⟩ T now = stp0 := fun h => by unfold takeS; rw [if_neg h]
      have hok : takeE ⟨last, a, b, fr⟩ T now = 0 → takeS ⟨last, a, b, fr⟩ T now = ⟨T, a, b, false⟩ := fun h => by unfold takeS; rw [if_pos h]
      unfold stE stV at hT
      generalize takeS ⟨last, a, b, fr⟩ T now = r at *
      generalize takeE ⟨last, a, b, fr⟩ T now = e at *
      have HT := Lib.hid hT; have HZ := Lib.hid hz; have HBAD := Lib.hid hbad; have HOK := Lib.hid hok
      clear hT hz hbad hok
      go_upto_region 13 with fail
      clear q2
      go_cut [13, 14] (fun s13 s14 wx => ∃ gx, s13 = .pointer (some ⟨gx, 0, none⟩) ∧ s14 = .int .i64 e ∧ g < gx ∧ Has wx (g) 23 (stA ⟨last, a, b, fr⟩) ∧ Below w.heap.size w wx ∧ Has wx (gx) 23 (stA r))
      case first =>
        refine wp_region_held_drew (S := (fun W_ => Has W_ (g) 23 (stA ⟨last, a, b, fr⟩) ∧ Below w.heap.size w W_)) (by kernel_rfl) ?_ (fun hHeld => ?_)
        · exact ⟨HS2.out.draw, below_dr11 HBL2.out⟩
        refine wpAnyH_take (i := 0) (oi := ⟨some 48, _, _, _, _, _⟩) (v := .agg (stA ⟨last, a, b, fr⟩)) rfl (by kernel_rfl) (by kernel_rfl) (by kernel_rfl) (fun _ _ _ h => h) (yields_load_row11 23 _ rfl (g) rfl 23 (stA ⟨last, a, b, fr⟩) _ (fun _ ⟨h_, _⟩ => h_) Try.underlying23 rfl (by kernel_rfl) (by rfl)) (by assumption) ?_
        simp only [Act.put, List.setIfInBounds_toArray, List.set_cons_zero, List.set_cons_succ]
        refine wpAnyH_take (i := 1) (oi := ⟨some 49, _, _, _, _, _⟩) (v := ?_) rfl (by kernel_rfl) (by kernel_rfl) (by kernel_rfl) (fun _ _ _ h => h) (Or.inl ⟨by rfl, ?_⟩) (by assumption) ?_
        rotate_left
        · intro w_ hSw; (try dsimp only at hSw); go_simp <;> with_reducible rfl
        simp only [Act.put, List.setIfInBounds_toArray, List.set_cons_zero, List.set_cons_succ]
        refine wpAnyH_take (i := 2) (oi := ⟨some 50, _, _, _, _, _⟩) (v := ?_) rfl (by kernel_rfl) (by kernel_rfl) (by kernel_rfl) (fun _ _ _ h => h) (Or.inl ⟨by rfl, ?_⟩) (by assumption) ?_
        rotate_left
        · intro w_ hSw; (try dsimp only at hSw); go_simp <;> with_reducible rfl
        simp only [Act.put, List.setIfInBounds_toArray, List.set_cons_zero, List.set_cons_succ]
        refine wpAnyH_take (i := 3) (oi := ⟨some 51, _, _, _, _, _⟩) (v := ?_) rfl (by kernel_rfl) (by kernel_rfl) (by kernel_rfl) (fun _ _ _ h => h) (Or.inl ⟨by rfl, ?_⟩) (by assumption) ?_
        rotate_left
        · intro w_ hSw; (try dsimp only at hSw); go_simp <;> with_reducible rfl
        simp only [Act.put, List.setIfInBounds_toArray, List.set_cons_zero, List.set_cons_succ]
        refine wpAnyH_take (i := 4) (oi := ⟨some 52, _, _, _, _, _⟩) (v := ?_) rfl (by kernel_rfl) (by kernel_rfl) (by kernel_rfl) (fun _ _ _ h => h) (Or.inl ⟨by rfl, ?_⟩) (by assumption) ?_
        rotate_left
        · intro w_ hSw; (try dsimp only at hSw); go_simp <;> with_reducible rfl
        simp only [Act.put, List.setIfInBounds_toArray, List.set_cons_zero, List.set_cons_succ]
        refine wpAnyH_take (i := 5) (oi := ⟨some 53, _, _, _, _, _⟩) (v := ?_) rfl (by kernel_rfl) (by kernel_rfl) (by kernel_rfl) (fun _ _ _ h => h) (Or.inl ⟨by rfl, ?_⟩) (by assumption) ?_
        rotate_left
        · intro w_ hSw; (try dsimp only at hSw); obtain ⟨c0_, _⟩ := HC.out w_ hSw.2; go_simp <;> with_reducible rfl
        simp only [Act.put, List.setIfInBounds_toArray, List.set_cons_zero, List.set_cons_succ]
        refine wpAnyH_take (i := 6) (oi := ⟨some 54, _, _, _, _, _⟩) (v := ?_) rfl (by kernel_rfl) (by kernel_rfl) (by kernel_rfl) (fun _ _ _ h => h) (Or.inl ⟨by rfl, ?_⟩) (by assumption) ?_
        rotate_left
        · intro w_ hSw; (try dsimp only at hSw); go_simp <;> with_reducible rfl
        simp only [Act.put, List.setIfInBounds_toArray, List.set_cons_zero, List.set_cons_succ]
        refine wpAnyH_take (i := 7) (oi := ⟨some 55, _, _, _, _, _⟩) (v := ?_) rfl (by kernel_rfl) (by kernel_rfl) (by kernel_rfl) (fun _ _ _ h => h) (Or.inl ⟨by rfl, ?_⟩) (by assumption) ?_
        rotate_left
        · intro w_ hSw; (try dsimp only at hSw); go_simp <;> with_reducible rfl
        simp only [Act.put, List.setIfInBounds_toArray, List.set_cons_zero, List.set_cons_succ]
        refine wpAnyH_take (i := 8) (oi := ⟨some 56, _, _, _, _, _⟩) (v := ?_) rfl (by kernel_rfl) (by kernel_rfl) (by kernel_rfl) (fun _ _ _ h => h) (Or.inl ⟨by rfl, ?_⟩) (by assumption) ?_
        rotate_left
        · intro w_ hSw; (try dsimp only at hSw); go_simp <;> with_reducible rfl
        simp only [Act.put, List.setIfInBounds_toArray, List.set_cons_zero, List.set_cons_succ]
        refine wpAnyH_take (i := 9) (oi := ⟨some 57, _, _, _, _, _⟩) (v := ?_) rfl (by kernel_rfl) (by kernel_rfl) (by kernel_rfl) (fun _ _ _ h => h) (Or.inl ⟨by rfl, ?_⟩) (by assumption) ?_
        rotate_left
        · intro w_ hSw; (try dsimp only at hSw); go_simp <;> with_reducible rfl
        simp only [Act.put, List.setIfInBounds_toArray, List.set_cons_zero, List.set_cons_succ]
        refine wpAnyH_take (i := 10) (oi := ⟨some 58, _, _, _, _, _⟩) (v := ?_) rfl (by kernel_rfl) (by kernel_rfl) (by kernel_rfl) (fun _ _ _ h => h) (Or.inl ⟨by rfl, ?_⟩) (by assumption) ?_
        rotate_left
        · intro w_ hSw; (try dsimp only at hSw); obtain ⟨_, c1_⟩ := HC.out w_ hSw.2; go_simp <;> with_reducible rfl
        simp only [Act.put, List.setIfInBounds_toArray, List.set_cons_zero, List.set_cons_succ]
        refine wpAnyH_ready (rs := [11, 15]) (by kernel_rfl) (by simp) ?_
        refine AllReadyH.cons (o := ⟨some 59, _, _, _, _, _⟩) rfl (fun K hK => ?_) ?_
        · go_simp
          obtain ⟨s0, s1⟩ := hHeld
          refine (HT.out _).mono ?_
          rintro e_ vs ⟨rfl, hbs⟩
          go_wp2_with fail
          refine hK.out _ _ ?_ (fun hHeld => ?_)
          · exact ⟨s0.under hbs s0.lt, s1.trans (hbs.mono s1.size)⟩
          clear hK K s0 s1
          try simp only [Act.put, List.setIfInBounds_toArray, List.set_cons_zero, List.set_cons_succ]
          refine wpAnyH_take (i := 12) (oi := ⟨some 47, _, _, _, _, _⟩) (v := ?_) rfl (by kernel_rfl) (by kernel_rfl) (by kernel_rfl) (fun _ _ _ h => h) (Or.inl ⟨by rfl, ?_⟩) (by assumption) ?_
          rotate_left
          · intro w_ hSw; (try dsimp only at hSw); go_simp <;> with_reducible rfl
          simp only [Act.put, List.setIfInBounds_toArray, List.set_cons_zero, List.set_cons_succ]
          refine wpAnyH_take (i := 13) (oi := ⟨some 60, _, _, _, _, _⟩) (v := ?_) rfl (by kernel_rfl) (by kernel_rfl) (by kernel_rfl) (fun _ _ _ h => h) (Or.inl ⟨by rfl, ?_⟩) (by assumption) ?_
          rotate_left
          · intro w_ hSw; (try dsimp only at hSw); go_simp <;> with_reducible rfl
          simp only [Act.put, List.setIfInBounds_toArray, List.set_cons_zero, List.set_cons_succ]
          refine wpAnyH_take (i := 14) (oi := ⟨some 61, _, _, _, _, _⟩) (v := ?_) rfl (by kernel_rfl) (by kernel_rfl) (by kernel_rfl) (fun _ _ _ h => h) (Or.inl ⟨by rfl, ?_⟩) (by assumption) ?_
          rotate_left
          · intro w_ hSw; (try dsimp only at hSw); go_simp <;> with_reducible rfl
          simp only [Act.put, List.setIfInBounds_toArray, List.set_cons_zero, List.set_cons_succ]
          refine wpAnyH_ready (rs := [15]) (by kernel_rfl) (by simp) ?_
          refine AllReadyH.cons (o := ⟨some 13, _, _, _, _, _⟩) rfl (fun K hK => ?_) ?_
          · go_simp
            obtain ⟨s0, s1⟩ := hHeld
            obtain ⟨gx, hgx⟩ : ∃ gx, vs.heap.size = gx := ⟨_, rfl⟩
            have hgl : g < gx := by rw [← hgx]; exact s0.lt
            rw [hgx]
            refine hK.out _ _ ?_ (fun hHeld => ?_)
            · exact ⟨s0.beside _, below_al11 s1 _⟩
            refine wpAnyH_more11 (T := (fun W_ => Has W_ (g) 23 (stA ⟨last, a, b, fr⟩) ∧ Below w.heap.size w W_ ∧ (∃ o_ : Array Value, Has W_ (gx) 23 o_ ∧ o_.size = 4))) (fun _ ⟨s0, s1, s2⟩ => ⟨s0, s1⟩) ?_
            have hHeld2 : (fun W_ => Has W_ (g) 23 (stA ⟨last, a, b, fr⟩) ∧ Below w.heap.size w W_ ∧ (∃ o_ : Array Value, Has W_ (gx) 23 o_ ∧ o_.size = 4)) _ := ⟨s0.beside (.cells #[.int .i64 0, .int .i64 0, .int .i64 0, .bool false] 23), below_al11 s1 (.cells #[.int .i64 0, .int .i64 0, .int .i64 0, .bool false] 23), ⟨#[.int .i64 0, .int .i64 0, .int .i64 0, .bool false], (by rw [← hgx]; exact Has.made _ _ _), by kernel_rfl⟩⟩
            clear hHeld
            have hHeld := hHeld2
            clear hHeld2 hK K hgx s0 s1
            try simp only [Act.put, List.setIfInBounds_toArray, List.set_cons_zero, List.set_cons_succ]
            refine wpAnyH_ready (rs := [16]) (by kernel_rfl) (by simp) ?_
            refine AllReadyH.cons (o := ⟨none, _, _, _, _, _⟩) rfl (fun K hK => ?_) ?_
            · rw [if_pos (by rfl)]
              obtain ⟨s0, s1, s2⟩ := hHeld
              obtain ⟨o_, h_, e_⟩ := s2
              refine wp_store_row 23 _ _ rfl (gx) (stA r) (by rfl) (by rfl) 23 o_ h_.raw11 (by kernel_rfl) e_ (by kernel_rfl) ?_
              refine hK.out _ _ ?_ (fun hHeld => ?_)
              · exact ⟨has_rowo11 s0 (by omega) _, below_row s1 (by omega) _, ⟨_, has_row11 h_ (stA r), by kernel_rfl⟩⟩
              refine wpAnyH_more11 (T := (fun W_ => Has W_ (g) 23 (stA ⟨last, a, b, fr⟩) ∧ Below w.heap.size w W_ ∧ Has W_ (gx) 23 (stA r))) (fun _ ⟨s0, s1, s2⟩ => ⟨s0, s1, ⟨_, s2, by kernel_rfl⟩⟩) ?_
              have hHeld2 : (fun W_ => Has W_ (g) 23 (stA ⟨last, a, b, fr⟩) ∧ Below w.heap.size w W_ ∧ Has W_ (gx) 23 (stA r)) _ := ⟨has_rowo11 s0 (by omega) _, below_row s1 (by omega) _, has_row11 h_ (stA r)⟩
              clear hHeld
              have hHeld := hHeld2
              clear hHeld2 hK K h_ e_ s0 s1
              try simp only [Act.put]
              refine wpAnyH_take (i := 17) (oi := ⟨some 14, _, _, _, _, _⟩) (v := ?_) rfl (by kernel_rfl) (by kernel_rfl) (by kernel_rfl) (fun _ _ _ h => h) (Or.inl ⟨by rfl, ?_⟩) (by assumption) ?_
              rotate_left
              · intro w_ hSw; (try dsimp only at hSw); go_simp <;> with_reducible rfl
              simp only [Act.put, List.setIfInBounds_toArray, List.set_cons_zero, List.set_cons_succ]
              refine wpAnyH_done (by kernel_rfl) ?_ _
              go_wp2_with fail
              go_meet
              exact ⟨gx, rfl, rfl, hgl, hHeld⟩
            exact AllReadyH.nil
          exact AllReadyH.nil
        refine AllReadyH.cons (o := ⟨some 13, _, _, _, _, _⟩) rfl (fun K hK => ?_) ?_
        · go_simp
          obtain ⟨s0, s1⟩ := hHeld
          obtain ⟨gx, hgx⟩ : ∃ gx, wr.heap.size = gx := ⟨_, rfl⟩
          have hgl : g < gx := by rw [← hgx]; exact s0.lt
          rw [hgx]
          refine hK.out _ _ ?_ (fun hHeld => ?_)
          · exact ⟨s0.beside _, below_al11 s1 _⟩
          refine wpAnyH_more11 (T := (fun W_ => Has W_ (g) 23 (stA ⟨last, a, b, fr⟩) ∧ Below w.heap.size w W_ ∧ (∃ o_ : Array Value, Has W_ (gx) 23 o_ ∧ o_.size = 4))) (fun _ ⟨s0, s1, s2⟩ => ⟨s0, s1⟩) ?_
          have hHeld2 : (fun W_ => Has W_ (g) 23 (stA ⟨last, a, b, fr⟩) ∧ Below w.heap.size w W_ ∧ (∃ o_ : Array Value, Has W_ (gx) 23 o_ ∧ o_.size = 4)) _ := ⟨s0.beside (.cells #[.int .i64 0, .int .i64 0, .int .i64 0, .bool false] 23), below_al11 s1 (.cells #[.int .i64 0, .int .i64 0, .int .i64 0, .bool false] 23), ⟨#[.int .i64 0, .int .i64 0, .int .i64 0, .bool false], (by rw [← hgx]; exact Has.made _ _ _), by kernel_rfl⟩⟩
          clear hHeld
          have hHeld := hHeld2
          clear hHeld2 hK K hgx s0 s1
          try simp only [Act.put, List.setIfInBounds_toArray, List.set_cons_zero, List.set_cons_succ]
          refine wpAnyH_ready (rs := [11]) (by kernel_rfl) (by simp) ?_
          refine AllReadyH.cons (o := ⟨some 59, _, _, _, _, _⟩) rfl (fun K hK => ?_) ?_
          · go_simp
            obtain ⟨s0, s1, s2⟩ := hHeld
            refine (HT.out _).mono ?_
            rintro e_ vs ⟨rfl, hbs⟩
            go_wp2_with fail
            refine hK.out _ _ ?_ (fun hHeld => ?_)
            · exact ⟨s0.under hbs s0.lt, s1.trans (hbs.mono s1.size), (let ⟨o_, h_, e_⟩ := s2; ⟨o_, h_.under hbs h_.lt, e_⟩)⟩
            clear hK K s0 s1 s2
            try simp only [Act.put, List.setIfInBounds_toArray, List.set_cons_zero, List.set_cons_succ]
            refine wpAnyH_take (i := 12) (oi := ⟨some 47, _, _, _, _, _⟩) (v := ?_) rfl (by kernel_rfl) (by kernel_rfl) (by kernel_rfl) (fun _ _ _ h => h) (Or.inl ⟨by rfl, ?_⟩) (by assumption) ?_
            rotate_left
            · intro w_ hSw; (try dsimp only at hSw); go_simp <;> with_reducible rfl
            simp only [Act.put, List.setIfInBounds_toArray, List.set_cons_zero, List.set_cons_succ]
            refine wpAnyH_take (i := 13) (oi := ⟨some 60, _, _, _, _, _⟩) (v := ?_) rfl (by kernel_rfl) (by kernel_rfl) (by kernel_rfl) (fun _ _ _ h => h) (Or.inl ⟨by rfl, ?_⟩) (by assumption) ?_
            rotate_left
            · intro w_ hSw; (try dsimp only at hSw); go_simp <;> with_reducible rfl
            simp only [Act.put, List.setIfInBounds_toArray, List.set_cons_zero, List.set_cons_succ]
            refine wpAnyH_take (i := 14) (oi := ⟨some 61, _, _, _, _, _⟩) (v := ?_) rfl (by kernel_rfl) (by kernel_rfl) (by kernel_rfl) (fun _ _ _ h => h) (Or.inl ⟨by rfl, ?_⟩) (by assumption) ?_
            rotate_left
            · intro w_ hSw; (try dsimp only at hSw); go_simp <;> with_reducible rfl
            simp only [Act.put, List.setIfInBounds_toArray, List.set_cons_zero, List.set_cons_succ]
            refine wpAnyH_ready (rs := [16]) (by kernel_rfl) (by simp) ?_
            refine AllReadyH.cons (o := ⟨none, _, _, _, _, _⟩) rfl (fun K hK => ?_) ?_
            · rw [if_pos (by rfl)]
              obtain ⟨s0, s1, s2⟩ := hHeld
              obtain ⟨o_, h_, e_⟩ := s2
              refine wp_store_row 23 _ _ rfl (gx) (stA r) (by rfl) (by rfl) 23 o_ h_.raw11 (by kernel_rfl) e_ (by kernel_rfl) ?_
              refine hK.out _ _ ?_ (fun hHeld => ?_)
              · exact ⟨has_rowo11 s0 (by omega) _, below_row s1 (by omega) _, ⟨_, has_row11 h_ (stA r), by kernel_rfl⟩⟩
              refine wpAnyH_more11 (T := (fun W_ => Has W_ (g) 23 (stA ⟨last, a, b, fr⟩) ∧ Below w.heap.size w W_ ∧ Has W_ (gx) 23 (stA r))) (fun _ ⟨s0, s1, s2⟩ => ⟨s0, s1, ⟨_, s2, by kernel_rfl⟩⟩) ?_
              have hHeld2 : (fun W_ => Has W_ (g) 23 (stA ⟨last, a, b, fr⟩) ∧ Below w.heap.size w W_ ∧ Has W_ (gx) 23 (stA r)) _ := ⟨has_rowo11 s0 (by omega) _, below_row s1 (by omega) _, has_row11 h_ (stA r)⟩
              clear hHeld
              have hHeld := hHeld2
              clear hHeld2 hK K h_ e_ s0 s1
              try simp only [Act.put]
              refine wpAnyH_take (i := 17) (oi := ⟨some 14, _, _, _, _, _⟩) (v := ?_) rfl (by kernel_rfl) (by kernel_rfl) (by kernel_rfl) (fun _ _ _ h => h) (Or.inl ⟨by rfl, ?_⟩) (by assumption) ?_
              rotate_left
              · intro w_ hSw; (try dsimp only at hSw); go_simp <;> with_reducible rfl
              simp only [Act.put, List.setIfInBounds_toArray, List.set_cons_zero, List.set_cons_succ]
              refine wpAnyH_done (by kernel_rfl) ?_ _
              go_wp2_with fail
              go_meet
              exact ⟨gx, rfl, rfl, hgl, hHeld⟩
            exact AllReadyH.nil
          exact AllReadyH.nil
        exact AllReadyH.nil
      case rest =>
        obtain ⟨gx, rfl, rfl, hgl, hs3, hb3, hx3⟩ := hcut
        obtain ⟨d0, d1⟩ := HC.out _ hb3
        have HB3 := Lib.hid hb3; have HS3 := Lib.hid hs3; have HX3 := Lib.hid hx3
        have a0 : wc.cell? ⟨g, 0, none⟩ = some (.int .i64 last) := hs3.cell 0
        have a3 : wc.cell? ⟨g, 3, none⟩ = some (.bool fr) := hs3.cell 3
        clear hs3 hb3 HT HS2 HBL2
        by_cases he : e = 0
        rotate_left
        · have he1 : (e != 0) = true := by simp [he]
          obtain rfl := HBAD.out he
          have b0 : wc.cell? ⟨gx, 0, none⟩ = some (.int .i64 0) := hx3.cell 0
          have b3 : wc.cell? ⟨gx, 3, none⟩ = some (.bool false) := hx3.cell 3
          have hl1 : (last != last) = false := by simp
          have hf1 : (fr != fr) = false := by simp
          clear he HZ HBAD HOK hx3 HX3
          go_wp2
          go_roundg (gk - 1)
          case measure => omega
          case rel => exact ⟨j + 1, last, fr, by omega, by omega, rfl, rfl, by go_num, HS3.out, HB3.out⟩
        subst he
        obtain rfl := HOK.out rfl
        obtain ⟨hfit, hst⟩ := HZ.out.1 rfl
        have hn := fit_nums hfit
        dsimp only at hn
        have b0 : wc.cell? ⟨gx, 0, none⟩ = some (.int .i64 T) := hx3.cell 0
        have b3 : wc.cell? ⟨gx, 3, none⟩ = some (.bool false) := hx3.cell 3
        obtain ⟨f2, hf2⟩ : ∃ f2, now + a = f2 := ⟨_, rfl⟩
        obtain ⟨f1, hf1⟩ : ∃ f1, now - b = f1 := ⟨_, rfl⟩
        have hr2 : wrap64 (now + a) = f2 := by rw [← hf2]; exact IntWalk.wrap64_in _ (by omega)
        have hr1 : wrap64 (now - b) = f1 := by rw [← hf1]; exact IntWalk.wrap64_in _ (by omega)
        have hw1 : ¬ T < f1 := fun h => hst (.inl (by rw [hf1]; exact h))
        have hw2 : ¬ f2 < T := fun h => hst (.inr (.inl (by rw [hf2]; exact h)))
        have hw3 : ¬ (fr = false ∧ T ≤ last) := fun h => hst (.inr (.inr h))
        have y1 : decide (T < f1) = false := decide_eq_false hw1
        have y2 : decide (f2 < T) = false := decide_eq_false hw2
        have y3 : (T != T) = false := by simp
        have HSN := Lib.hid (has_row11 HS3.out (stA ⟨T, a, b, false⟩))
        have HBN := Lib.hid (below_row (g := g) HB3.out HG (stA ⟨T, a, b, false⟩))
        clear hst hn hf1 hf2 hfit HZ HBAD HOK hx3
        by_cases y4 : T ≤ last
        rotate_left
        · have y5 : decide (T ≤ last) = false := decide_eq_false y4
          clear hw3
          go_upto_region 17 with fail
          go_quiet (fail)
          go_upto_region 20 with (first | (with_reducible refine wpList_load_row (o := ⟨some 138, _, _, _, _, _⟩) rfl 23 _ rfl (gx) rfl 23 (stA ⟨T, a, b, false⟩) (0, 0) _ (HX3.out.draws _).raw11 Try.underlying23 rfl (by kernel_rfl) ?_) | (with_reducible refine wpList_store_rowTo (o := ⟨none, _, _, _, _, _⟩) rfl 23 _ _ rfl rfl (g) (stA ⟨T, a, b, false⟩) rfl rfl 23 _ (HS3.out.draws _).raw11 (by kernel_rfl) (by kernel_rfl) (by kernel_rfl) ?_))
          have hb4 := below_row (g := g) (below_draws HB3.out nq) HG (stA ⟨T, a, b, false⟩)
          obtain ⟨d4, _⟩ := HC.out _ hb4
          clear hb4
          go_wp2
          go_roundg (gk - 1)
          case measure => omega
          case rel => exact ⟨j + 1, T, false, by omega, by omega, rfl, rfl, by go_num, has_row11 (HS3.out.draws _) _, below_row (g := g) (below_draws HB3.out _) HG _⟩
        have y5 : decide (T ≤ last) = true := decide_eq_true y4
        cases fr with
        | false => exact absurd ⟨rfl, y4⟩ hw3
        | true =>
          clear hw3
          go_upto_region 17 with fail
          go_quiet (fail)
          go_upto_region 20 with (first | (with_reducible refine wpList_load_row (o := ⟨some 138, _, _, _, _, _⟩) rfl 23 _ rfl (gx) rfl 23 (stA ⟨T, a, b, false⟩) (0, 0) _ (HX3.out.draws _).raw11 Try.underlying23 rfl (by kernel_rfl) ?_) | (with_reducible refine wpList_store_rowTo (o := ⟨none, _, _, _, _, _⟩) rfl 23 _ _ rfl rfl (g) (stA ⟨T, a, b, false⟩) rfl rfl 23 _ (HS3.out.draws _).raw11 (by kernel_rfl) (by kernel_rfl) (by kernel_rfl) ?_))
          have hb4 := below_row (g := g) (below_draws HB3.out nq) HG (stA ⟨T, a, b, false⟩)
          obtain ⟨d4, _⟩ := HC.out _ hb4
          clear hb4
          go_wp2
          go_roundg (gk - 1)
          case measure => omega
          case rel => exact ⟨j + 1, T, false, by omega, by omega, rfl, rfl, by go_num, has_row11 (HS3.out.draws _) _, below_row (g := g) (below_draws HB3.out _) HG _⟩
end Go.Proofs.Ytjfndnpjcicogaa
