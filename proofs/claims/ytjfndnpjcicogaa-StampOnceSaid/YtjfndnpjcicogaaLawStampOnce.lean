/-
  linesidelaw11.StampOnce, walked.
-/
import Derived.Test.YtjfndnpjcicogaaSpEq
import Derived.Test.YtjfndnpjcicogaaOpenSp
import Derived.Test.YtjfndnpjcicogaaLawStampWide
import Derived.BigQuiet
namespace Go.Proofs.Ytjfndnpjcicogaa
open Go.RowKit
open Go.Great

theorem info_int11 : (Try.prog.info? 3).map (fun i => (i.zero, i.size, i.bytes)) = some (some (.int .i64 0), 1, 8) := by kernel_rfl
set_option maxRecDepth 100000 in
set_option maxHeartbeats 8000000 in
theorem stampOnce_walk (a b : Int) (A : Option Addr) (n c : Nat) (l : List Cm) (w : World) (_wa : (Lit.int .i64 a).wf = true) (_wb : (Lit.int .i64 b).wf = true) (hl : InCame w A n l) :
    Calls Try.prog 6 #[.int .i64 a, .int .i64 b, .slice A n c] w fun e w' => e = .returned (.bool true) ∧ Below w.heap.size w w' := by
  have hN := fun W => new_any a b W
  unfold stE stV at hN
  have HN := Lib.hid hN
  have HAW := Lib.hid (awake11_any w)
  have HL := Lib.hid (fun W (hW : Below w.heap.size w W) (j : Nat) (hj : j < n) => came_low hl hW hj)
  clear hN hl
  go_enter Try.func6, Try.ntmps6
  have HB0 : Hid (Below w.heap.size w w) := Lib.hid (Below.refl _ _)
  obtain s0 := HB0.out
  have HK := Lib.hid (HAW.out)
  clear s0
  go_wp2_with fail
  refine HK.out.mono ?_
  rintro e v1 ⟨rfl, hb1⟩
  obtain s0 := HB0.out
  have hbn : Below w.heap.size w v1 := hb1
  have HB1 : Hid (Below w.heap.size w v1) := Lib.hid (s0.trans (hbn.mono s0.size))
  clear s0
  clear HK HB0 HAW hb1
  clear hbn
  obtain s0 := HB1.out
  have HK := Lib.hid (HN.out v1)
  clear s0
  go_wp2_with fail
  refine HK.out.mono ?_
  rintro e v2 ⟨rfl, hb1⟩
  obtain s0 := HB1.out
  have hbn : Below v1.heap.size v1 v2 := hb1
  have HB2 : Hid (Below w.heap.size w v2) := Lib.hid (s0.trans (hbn.mono s0.size))
  clear s0
  clear HK HB1 HN hb1
  clear hbn
  obtain s0 := HB2.out
  have le2_2 : w.heap.size ≤ v2.heap.size := s0.size
  have HS0 : Hid (Has (v2.alloc (.cells #[.int .i64 0, .int .i64 0, .int .i64 0, .bool false] 23)) (v2.heap.size) 23 #[.int .i64 0, .int .i64 0, .int .i64 0, .bool false]) := Lib.hid (Has.made v2 23 #[.int .i64 0, .int .i64 0, .int .i64 0, .bool false])
  obtain ⟨v3, hv3⟩ : ∃ v3, (v2.alloc (.cells #[.int .i64 0, .int .i64 0, .int .i64 0, .bool false] 23)).setRow (v2.heap.size) (stA (newS a b)) = v3 := ⟨_, rfl⟩
  have hbw : Below v2.heap.size v2 v3 := by rw [← hv3]; exact (below_row (g := v2.heap.size) (Below.alloc (Below.refl v2.heap.size v2) (Nat.le_refl _) (.cells #[.int .i64 0, .int .i64 0, .int .i64 0, .bool false] 23)) (by omega) (stA (newS a b)))
  have HB3 : Hid (Has v3 (v2.heap.size) 23 (stA (newS a b)) ∧ Below w.heap.size w v3) := Lib.hid ⟨(by rw [← hv3]; exact (has_row11 (Has.made v2 23 #[.int .i64 0, .int .i64 0, .int .i64 0, .bool false]) (stA (newS a b)))), s0.trans (hbw.mono s0.size)⟩
  clear hbw
  have HWv3 := Lib.hid hv3
  clear s0
  clear hv3 HB2
  go_upto_region 3 with (first | (with_reducible refine wpList_store_rowTo (o := ⟨none, _, _, _, _, _⟩) rfl 23 _ _ rfl rfl (v2.heap.size) (stA (newS a b)) rfl rfl 23 _ (HS0.out).raw11 (by kernel_rfl) (by kernel_rfl) (by kernel_rfl) ?_))
  rw [HWv3.out]
  clear HWv3 HS0
  obtain ⟨s0, s1⟩ := HB3.out
  have HS := Lib.hid s0; have HBL := Lib.hid s1
  have HG : w.heap.size ≤ v2.heap.size := le2_2
  clear s0 s1
  clear HB3 le2_2
  by_cases hnew : isT a = true ∧ isT b = true
  rotate_left
  · have he : newE a b = 1 := by unfold newE; rw [if_neg hnew]
    rw [he]
    clear he hnew HS HL HG
    go_wp2
    go_ret
    exact ⟨rfl, HBL.out⟩
  have he : newE a b = 0 := by unfold newE; rw [if_pos hnew]
  have hs : newS a b = ⟨-1, a, b, false⟩ := by unfold newS; rw [if_pos hnew]
  rw [he]
  rw [hs] at HS
  clear he hs hnew
  by_cases hlen : (200 : Int) < n
  · clear HS HL HG
    go_wp2
    go_ret
    exact ⟨rfl, HBL.out⟩
  have hn200 : n ≤ 200 := by omega
  obtain ⟨g, hg⟩ : ∃ g, v2.heap.size = g := ⟨_, rfl⟩
  rw [hg] at HS HG
  simp only [hg]
  obtain ⟨w0, hw0⟩ : ∃ w0, v3 = w0 := ⟨_, rfl⟩
  rw [hw0] at HS HBL
  rw [hw0]
  clear hg hw0
  have HO0 : Hid (w0.ownsRow w.heap.size 3 1 (.slice none 0 0) 0 []) := Lib.hid (World.ownsRow_nil w0 w.heap.size 3 1)
  go_wp2
  go_loopg [10, 11] n (fun kk v10 v11 wl => ∃ (j : Nat) (last : Int) (K : List Int) (A2 : Option Addr) (c2 : Nat), j ≤ n ∧ n - j ≤ kk ∧ K.length ≤ j ∧ (∀ x ∈ K, x ≤ last) ∧ v10 = .slice A2 K.length c2 ∧ v11 = .int .i64 j ∧ wl.ownsRow w.heap.size 3 1 (.slice A2 K.length c2) K.length (ints11 K) ∧ Has wl g 23 (stA ⟨last, a, b, false⟩) ∧ Below w.heap.size w wl)
  case atStart => exact ⟨0, -1, [], none, 0, by omega, by omega, by simp, (fun x hx => by simp at hx), rfl, rfl, HO0.out, HS.out, HBL.out⟩
  case round =>
    obtain ⟨j, last, K, A2, c2, hj, hjk, hKj, hKl, rfl, rfl, ho, hs, hbl⟩ := hrel
    have HS1 := Lib.hid hs; have HBL1 := Lib.hid hbl; have HO1 := Lib.hid ho; have HKL := Lib.hid hKl
    clear hs hbl ho hKl HS HBL HO0
    by_cases hlt : j < n
    rotate_left
    · have x1 : ¬ (j : Int) < n := by omega
      clear hlt hj hjk HL HG HS1 HO1 HKL
      go_wp2
      go_ret
      exact ⟨rfl, HBL1.out⟩
    have x1 : (j : Int) < n := by omega
    have x0 : (0 : Int) ≤ j := by omega
    obtain ⟨bk, off, rfl, hbk, q0, q1, q2⟩ := HL.out _ HBL1.out j hlt
    have HC := Lib.hid (fun W (hW : Below w.heap.size w W) => (by obtain ⟨_, _, e, _, h0, h1, _⟩ := HL.out W hW j hlt; injection e with e; injection e with e1 e2 _; subst e1 e2; exact ⟨h0, h1⟩ : W.cell? ⟨bk, off + j * 3, none⟩ = some (.int .i64 (l.getD j cm0).t) ∧ W.cell? ⟨bk, off + j * 3 + 1, none⟩ = some (.int .i64 (l.getD j cm0).now)))
    generalize l.getD j cm0 = x at *
    obtain ⟨T, now, fx⟩ := x
    dsimp only at *
    clear q0 q1 q2
    obtain ⟨w1, hw1⟩ : ∃ w1, w1 = wr := ⟨_, rfl⟩
    subst hw1
    obtain ⟨k1, hk1⟩ : ∃ k1, k1 = gk := ⟨_, rfl⟩
    subst hk1
    have hT := fun W => take_any ⟨last, a, b, false⟩ T now W
    have hz := take_zero ⟨last, a, b, false⟩ T now
    have hok : takeE ⟨last, a, b, false⟩ T now = 0 → takeS ⟨last, a, b, false⟩ T now = ⟨T, a, b, false⟩ := fun h => by unfold takeS; rw [if_pos h]
    unfold stE stV at hT
    generalize takeS ⟨last, a, b, false⟩ T now = r at *
    generalize takeE ⟨last, a, b, false⟩ T now = e at *
    have HT := Lib.hid hT; have HZ := Lib.hid hz; have HOK := Lib.hid hok
    clear hT hz hok
    go_upto_region 9 with fail
    go_cut [12, 13] (fun s12 s13 wx => ∃ gx, s12 = .pointer (some ⟨gx, 0, none⟩) ∧ s13 = .int .i64 e ∧ g < gx ∧ w1.heap.size ≤ gx ∧ Has wx (g) 23 (stA ⟨last, a, b, false⟩) ∧ Below w1.heap.size w1 wx ∧ Has wx (gx) 23 (stA r))
    case first =>
      refine wp_region_held_drew (S := (fun W_ => Has W_ (g) 23 (stA ⟨last, a, b, false⟩) ∧ Below w1.heap.size w1 W_)) (by kernel_rfl) ?_ (fun hHeld => ?_)
      · exact ⟨HS1.out.draw, below_dr11 (Below.refl _ _)⟩
      refine wpAnyH_take (i := 0) (oi := ⟨some 41, _, _, _, _, _⟩) (v := .agg (stA ⟨last, a, b, false⟩)) rfl (by kernel_rfl) (by kernel_rfl) (by kernel_rfl) (fun _ _ _ h => h) (yields_load_row11 23 _ rfl (g) rfl 23 (stA ⟨last, a, b, false⟩) _ (fun _ ⟨h_, _⟩ => h_) Try.underlying23 rfl (by kernel_rfl) (by rfl)) (by assumption) ?_
      simp only [Act.put, List.setIfInBounds_toArray, List.set_cons_zero, List.set_cons_succ]
      refine wpAnyH_take (i := 1) (oi := ⟨some 42, _, _, _, _, _⟩) (v := ?_) rfl (by kernel_rfl) (by kernel_rfl) (by kernel_rfl) (fun _ _ _ h => h) (Or.inl ⟨by rfl, ?_⟩) (by assumption) ?_
      rotate_left
      · intro w_ hSw; (try dsimp only at hSw); go_simp <;> with_reducible rfl
      simp only [Act.put, List.setIfInBounds_toArray, List.set_cons_zero, List.set_cons_succ]
      refine wpAnyH_take (i := 2) (oi := ⟨some 43, _, _, _, _, _⟩) (v := ?_) rfl (by kernel_rfl) (by kernel_rfl) (by kernel_rfl) (fun _ _ _ h => h) (Or.inl ⟨by rfl, ?_⟩) (by assumption) ?_
      rotate_left
      · intro w_ hSw; (try dsimp only at hSw); go_simp <;> with_reducible rfl
      simp only [Act.put, List.setIfInBounds_toArray, List.set_cons_zero, List.set_cons_succ]
      refine wpAnyH_take (i := 3) (oi := ⟨some 44, _, _, _, _, _⟩) (v := ?_) rfl (by kernel_rfl) (by kernel_rfl) (by kernel_rfl) (fun _ _ _ h => h) (Or.inl ⟨by rfl, ?_⟩) (by assumption) ?_
      rotate_left
      · intro w_ hSw; (try dsimp only at hSw); go_simp <;> with_reducible rfl
      simp only [Act.put, List.setIfInBounds_toArray, List.set_cons_zero, List.set_cons_succ]
      refine wpAnyH_take (i := 4) (oi := ⟨some 45, _, _, _, _, _⟩) (v := ?_) rfl (by kernel_rfl) (by kernel_rfl) (by kernel_rfl) (fun _ _ _ h => h) (Or.inl ⟨by rfl, ?_⟩) (by assumption) ?_
      rotate_left
      · intro w_ hSw; (try dsimp only at hSw); go_simp <;> with_reducible rfl
      simp only [Act.put, List.setIfInBounds_toArray, List.set_cons_zero, List.set_cons_succ]
      refine wpAnyH_take (i := 5) (oi := ⟨some 46, _, _, _, _, _⟩) (v := ?_) rfl (by kernel_rfl) (by kernel_rfl) (by kernel_rfl) (fun _ _ _ h => h) (Or.inl ⟨by rfl, ?_⟩) (by assumption) ?_
      rotate_left
      · intro w_ hSw; (try dsimp only at hSw); obtain ⟨c0_, _⟩ := HC.out w_ (HBL1.out.trans (hSw.2.mono HBL1.out.size)); go_simp <;> with_reducible rfl
      simp only [Act.put, List.setIfInBounds_toArray, List.set_cons_zero, List.set_cons_succ]
      refine wpAnyH_take (i := 6) (oi := ⟨some 47, _, _, _, _, _⟩) (v := ?_) rfl (by kernel_rfl) (by kernel_rfl) (by kernel_rfl) (fun _ _ _ h => h) (Or.inl ⟨by rfl, ?_⟩) (by assumption) ?_
      rotate_left
      · intro w_ hSw; (try dsimp only at hSw); go_simp <;> with_reducible rfl
      simp only [Act.put, List.setIfInBounds_toArray, List.set_cons_zero, List.set_cons_succ]
      refine wpAnyH_take (i := 7) (oi := ⟨some 48, _, _, _, _, _⟩) (v := ?_) rfl (by kernel_rfl) (by kernel_rfl) (by kernel_rfl) (fun _ _ _ h => h) (Or.inl ⟨by rfl, ?_⟩) (by assumption) ?_
      rotate_left
      · intro w_ hSw; (try dsimp only at hSw); go_simp <;> with_reducible rfl
      simp only [Act.put, List.setIfInBounds_toArray, List.set_cons_zero, List.set_cons_succ]
      refine wpAnyH_take (i := 8) (oi := ⟨some 49, _, _, _, _, _⟩) (v := ?_) rfl (by kernel_rfl) (by kernel_rfl) (by kernel_rfl) (fun _ _ _ h => h) (Or.inl ⟨by rfl, ?_⟩) (by assumption) ?_
      rotate_left
      · intro w_ hSw; (try dsimp only at hSw); go_simp <;> with_reducible rfl
      simp only [Act.put, List.setIfInBounds_toArray, List.set_cons_zero, List.set_cons_succ]
      refine wpAnyH_take (i := 9) (oi := ⟨some 50, _, _, _, _, _⟩) (v := ?_) rfl (by kernel_rfl) (by kernel_rfl) (by kernel_rfl) (fun _ _ _ h => h) (Or.inl ⟨by rfl, ?_⟩) (by assumption) ?_
      rotate_left
      · intro w_ hSw; (try dsimp only at hSw); go_simp <;> with_reducible rfl
      simp only [Act.put, List.setIfInBounds_toArray, List.set_cons_zero, List.set_cons_succ]
      refine wpAnyH_take (i := 10) (oi := ⟨some 51, _, _, _, _, _⟩) (v := ?_) rfl (by kernel_rfl) (by kernel_rfl) (by kernel_rfl) (fun _ _ _ h => h) (Or.inl ⟨by rfl, ?_⟩) (by assumption) ?_
      rotate_left
      · intro w_ hSw; (try dsimp only at hSw); obtain ⟨_, c1_⟩ := HC.out w_ (HBL1.out.trans (hSw.2.mono HBL1.out.size)); go_simp <;> with_reducible rfl
      simp only [Act.put, List.setIfInBounds_toArray, List.set_cons_zero, List.set_cons_succ]
      refine wpAnyH_ready (rs := [11, 15]) (by kernel_rfl) (by simp) ?_
      refine AllReadyH.cons (o := ⟨some 52, _, _, _, _, _⟩) rfl (fun K hK => ?_) ?_
      · go_simp
        obtain ⟨s0, s1⟩ := hHeld
        refine (HT.out _).mono ?_
        rintro e_ vs ⟨rfl, hbs⟩
        go_wp2_with fail
        refine hK.out _ _ ?_ (fun hHeld => ?_)
        · exact ⟨s0.under hbs s0.lt, s1.trans (hbs.mono s1.size)⟩
        clear hK K s0 s1
        try simp only [Act.put, List.setIfInBounds_toArray, List.set_cons_zero, List.set_cons_succ]
        refine wpAnyH_take (i := 12) (oi := ⟨some 40, _, _, _, _, _⟩) (v := ?_) rfl (by kernel_rfl) (by kernel_rfl) (by kernel_rfl) (fun _ _ _ h => h) (Or.inl ⟨by rfl, ?_⟩) (by assumption) ?_
        rotate_left
        · intro w_ hSw; (try dsimp only at hSw); go_simp <;> with_reducible rfl
        simp only [Act.put, List.setIfInBounds_toArray, List.set_cons_zero, List.set_cons_succ]
        refine wpAnyH_take (i := 13) (oi := ⟨some 53, _, _, _, _, _⟩) (v := ?_) rfl (by kernel_rfl) (by kernel_rfl) (by kernel_rfl) (fun _ _ _ h => h) (Or.inl ⟨by rfl, ?_⟩) (by assumption) ?_
        rotate_left
        · intro w_ hSw; (try dsimp only at hSw); go_simp <;> with_reducible rfl
        simp only [Act.put, List.setIfInBounds_toArray, List.set_cons_zero, List.set_cons_succ]
        refine wpAnyH_take (i := 14) (oi := ⟨some 54, _, _, _, _, _⟩) (v := ?_) rfl (by kernel_rfl) (by kernel_rfl) (by kernel_rfl) (fun _ _ _ h => h) (Or.inl ⟨by rfl, ?_⟩) (by assumption) ?_
        rotate_left
        · intro w_ hSw; (try dsimp only at hSw); go_simp <;> with_reducible rfl
        simp only [Act.put, List.setIfInBounds_toArray, List.set_cons_zero, List.set_cons_succ]
        refine wpAnyH_ready (rs := [15]) (by kernel_rfl) (by simp) ?_
        refine AllReadyH.cons (o := ⟨some 12, _, _, _, _, _⟩) rfl (fun K hK => ?_) ?_
        · go_simp
          obtain ⟨s0, s1⟩ := hHeld
          obtain ⟨gx, hgx⟩ : ∃ gx, vs.heap.size = gx := ⟨_, rfl⟩
          have hgl : g < gx := by rw [← hgx]; exact s0.lt
          have hgl2 : w1.heap.size ≤ gx := by rw [← hgx]; exact s1.size
          rw [hgx]
          refine hK.out _ _ ?_ (fun hHeld => ?_)
          · exact ⟨s0.beside _, below_al11 s1 _⟩
          refine wpAnyH_more11 (T := (fun W_ => Has W_ (g) 23 (stA ⟨last, a, b, false⟩) ∧ Below w1.heap.size w1 W_ ∧ (∃ o_ : Array Value, Has W_ (gx) 23 o_ ∧ o_.size = 4))) (fun _ ⟨s0, s1, s2⟩ => ⟨s0, s1⟩) ?_
          have hHeld2 : (fun W_ => Has W_ (g) 23 (stA ⟨last, a, b, false⟩) ∧ Below w1.heap.size w1 W_ ∧ (∃ o_ : Array Value, Has W_ (gx) 23 o_ ∧ o_.size = 4)) _ := ⟨s0.beside (.cells #[.int .i64 0, .int .i64 0, .int .i64 0, .bool false] 23), below_al11 s1 (.cells #[.int .i64 0, .int .i64 0, .int .i64 0, .bool false] 23), ⟨#[.int .i64 0, .int .i64 0, .int .i64 0, .bool false], (by rw [← hgx]; exact Has.made _ _ _), by kernel_rfl⟩⟩
          clear hHeld
          have hHeld := hHeld2
          clear hHeld2 hK K hgx s0 s1
          try simp only [Act.put, List.setIfInBounds_toArray, List.set_cons_zero, List.set_cons_succ]
          refine wpAnyH_ready (rs := [16]) (by kernel_rfl) (by simp) ?_
          refine AllReadyH.cons (o := ⟨none, _, _, _, _, _⟩) rfl (fun K hK => ?_) ?_
          · rw [if_pos (by rfl)]
            obtain ⟨s0, s1, s2⟩ := hHeld
            obtain ⟨o_, h_, e_⟩ := s2
            refine wp_store_row 23 _ _ rfl (gx) (stA r) (by rfl) (by rfl) 23 o_ h_.raw11 (by kernel_rfl) e_ (by kernel_rfl) ?_
            refine hK.out _ _ ?_ (fun hHeld => ?_)
            · exact ⟨has_rowo11 s0 (by omega) _, below_row s1 (by omega) _, ⟨_, has_row11 h_ (stA r), by kernel_rfl⟩⟩
            refine wpAnyH_more11 (T := (fun W_ => Has W_ (g) 23 (stA ⟨last, a, b, false⟩) ∧ Below w1.heap.size w1 W_ ∧ Has W_ (gx) 23 (stA r))) (fun _ ⟨s0, s1, s2⟩ => ⟨s0, s1, ⟨_, s2, by kernel_rfl⟩⟩) ?_
            have hHeld2 : (fun W_ => Has W_ (g) 23 (stA ⟨last, a, b, false⟩) ∧ Below w1.heap.size w1 W_ ∧ Has W_ (gx) 23 (stA r)) _ := ⟨has_rowo11 s0 (by omega) _, below_row s1 (by omega) _, has_row11 h_ (stA r)⟩
            clear hHeld
            have hHeld := hHeld2
            clear hHeld2 hK K h_ e_ s0 s1
            try simp only [Act.put]
            refine wpAnyH_take (i := 17) (oi := ⟨some 13, _, _, _, _, _⟩) (v := ?_) rfl (by kernel_rfl) (by kernel_rfl) (by kernel_rfl) (fun _ _ _ h => h) (Or.inl ⟨by rfl, ?_⟩) (by assumption) ?_
            rotate_left
            · intro w_ hSw; (try dsimp only at hSw); go_simp <;> with_reducible rfl
            simp only [Act.put, List.setIfInBounds_toArray, List.set_cons_zero, List.set_cons_succ]
            refine wpAnyH_done (by kernel_rfl) ?_ _
            go_wp2_with fail
            go_meet
            exact ⟨gx, rfl, rfl, hgl, hgl2, hHeld⟩
          exact AllReadyH.nil
        exact AllReadyH.nil
      refine AllReadyH.cons (o := ⟨some 12, _, _, _, _, _⟩) rfl (fun K hK => ?_) ?_
      · go_simp
        obtain ⟨s0, s1⟩ := hHeld
        obtain ⟨gx, hgx⟩ : ∃ gx, w1.heap.size = gx := ⟨_, rfl⟩
        have hgl : g < gx := by rw [← hgx]; exact s0.lt
        have hgl2 : w1.heap.size ≤ gx := by rw [← hgx]; exact s1.size
        rw [hgx]
        refine hK.out _ _ ?_ (fun hHeld => ?_)
        · exact ⟨s0.beside _, below_al11 s1 _⟩
        refine wpAnyH_more11 (T := (fun W_ => Has W_ (g) 23 (stA ⟨last, a, b, false⟩) ∧ Below w1.heap.size w1 W_ ∧ (∃ o_ : Array Value, Has W_ (gx) 23 o_ ∧ o_.size = 4))) (fun _ ⟨s0, s1, s2⟩ => ⟨s0, s1⟩) ?_
        have hHeld2 : (fun W_ => Has W_ (g) 23 (stA ⟨last, a, b, false⟩) ∧ Below w1.heap.size w1 W_ ∧ (∃ o_ : Array Value, Has W_ (gx) 23 o_ ∧ o_.size = 4)) _ := ⟨s0.beside (.cells #[.int .i64 0, .int .i64 0, .int .i64 0, .bool false] 23), below_al11 s1 (.cells #[.int .i64 0, .int .i64 0, .int .i64 0, .bool false] 23), ⟨#[.int .i64 0, .int .i64 0, .int .i64 0, .bool false], (by rw [← hgx]; exact Has.made _ _ _), by kernel_rfl⟩⟩
        clear hHeld
        have hHeld := hHeld2
        clear hHeld2 hK K hgx s0 s1
        try simp only [Act.put, List.setIfInBounds_toArray, List.set_cons_zero, List.set_cons_succ]
        refine wpAnyH_ready (rs := [11]) (by kernel_rfl) (by simp) ?_
        refine AllReadyH.cons (o := ⟨some 52, _, _, _, _, _⟩) rfl (fun K hK => ?_) ?_
        · go_simp
          obtain ⟨s0, s1, s2⟩ := hHeld
          refine (HT.out _).mono ?_
          rintro e_ vs ⟨rfl, hbs⟩
          go_wp2_with fail
          refine hK.out _ _ ?_ (fun hHeld => ?_)
          · exact ⟨s0.under hbs s0.lt, s1.trans (hbs.mono s1.size), (let ⟨o_, h_, e_⟩ := s2; ⟨o_, h_.under hbs h_.lt, e_⟩)⟩
          clear hK K s0 s1 s2
          try simp only [Act.put, List.setIfInBounds_toArray, List.set_cons_zero, List.set_cons_succ]
          refine wpAnyH_take (i := 12) (oi := ⟨some 40, _, _, _, _, _⟩) (v := ?_) rfl (by kernel_rfl) (by kernel_rfl) (by kernel_rfl) (fun _ _ _ h => h) (Or.inl ⟨by rfl, ?_⟩) (by assumption) ?_
          rotate_left
          · intro w_ hSw; (try dsimp only at hSw); go_simp <;> with_reducible rfl
          simp only [Act.put, List.setIfInBounds_toArray, List.set_cons_zero, List.set_cons_succ]
          refine wpAnyH_take (i := 13) (oi := ⟨some 53, _, _, _, _, _⟩) (v := ?_) rfl (by kernel_rfl) (by kernel_rfl) (by kernel_rfl) (fun _ _ _ h => h) (Or.inl ⟨by rfl, ?_⟩) (by assumption) ?_
          rotate_left
          · intro w_ hSw; (try dsimp only at hSw); go_simp <;> with_reducible rfl
          simp only [Act.put, List.setIfInBounds_toArray, List.set_cons_zero, List.set_cons_succ]
          refine wpAnyH_take (i := 14) (oi := ⟨some 54, _, _, _, _, _⟩) (v := ?_) rfl (by kernel_rfl) (by kernel_rfl) (by kernel_rfl) (fun _ _ _ h => h) (Or.inl ⟨by rfl, ?_⟩) (by assumption) ?_
          rotate_left
          · intro w_ hSw; (try dsimp only at hSw); go_simp <;> with_reducible rfl
          simp only [Act.put, List.setIfInBounds_toArray, List.set_cons_zero, List.set_cons_succ]
          refine wpAnyH_ready (rs := [16]) (by kernel_rfl) (by simp) ?_
          refine AllReadyH.cons (o := ⟨none, _, _, _, _, _⟩) rfl (fun K hK => ?_) ?_
          · rw [if_pos (by rfl)]
            obtain ⟨s0, s1, s2⟩ := hHeld
            obtain ⟨o_, h_, e_⟩ := s2
            refine wp_store_row 23 _ _ rfl (gx) (stA r) (by rfl) (by rfl) 23 o_ h_.raw11 (by kernel_rfl) e_ (by kernel_rfl) ?_
            refine hK.out _ _ ?_ (fun hHeld => ?_)
            · exact ⟨has_rowo11 s0 (by omega) _, below_row s1 (by omega) _, ⟨_, has_row11 h_ (stA r), by kernel_rfl⟩⟩
            refine wpAnyH_more11 (T := (fun W_ => Has W_ (g) 23 (stA ⟨last, a, b, false⟩) ∧ Below w1.heap.size w1 W_ ∧ Has W_ (gx) 23 (stA r))) (fun _ ⟨s0, s1, s2⟩ => ⟨s0, s1, ⟨_, s2, by kernel_rfl⟩⟩) ?_
            have hHeld2 : (fun W_ => Has W_ (g) 23 (stA ⟨last, a, b, false⟩) ∧ Below w1.heap.size w1 W_ ∧ Has W_ (gx) 23 (stA r)) _ := ⟨has_rowo11 s0 (by omega) _, below_row s1 (by omega) _, has_row11 h_ (stA r)⟩
            clear hHeld
            have hHeld := hHeld2
            clear hHeld2 hK K h_ e_ s0 s1
            try simp only [Act.put]
            refine wpAnyH_take (i := 17) (oi := ⟨some 13, _, _, _, _, _⟩) (v := ?_) rfl (by kernel_rfl) (by kernel_rfl) (by kernel_rfl) (fun _ _ _ h => h) (Or.inl ⟨by rfl, ?_⟩) (by assumption) ?_
            rotate_left
            · intro w_ hSw; (try dsimp only at hSw); go_simp <;> with_reducible rfl
            simp only [Act.put, List.setIfInBounds_toArray, List.set_cons_zero, List.set_cons_succ]
            refine wpAnyH_done (by kernel_rfl) ?_ _
            go_wp2_with fail
            go_meet
            exact ⟨gx, rfl, rfl, hgl, hgl2, hHeld⟩
          exact AllReadyH.nil
        exact AllReadyH.nil
      exact AllReadyH.nil
    case rest =>
      obtain ⟨gx, rfl, rfl, hgl, hgl2, hs3, hbw, hx3⟩ := hcut
      have hb3 := HBL1.out.trans (hbw.mono HBL1.out.size)
      have ho3 := own_under HO1.out hbw (Nat.le_refl _)
      have HB3 := Lib.hid hb3; have HS3 := Lib.hid hs3; have HX3 := Lib.hid hx3; have HO3 := Lib.hid ho3
      clear hs3 hb3 hx3 ho3 hbw HT HS1 HBL1 HO1
      by_cases he : e = 0
      rotate_left
      · have he1 : (e != 0) = true := by simp [he]
        clear he HZ HOK HX3
        go_wp2
        go_roundg (k1 - 1)
        case measure => omega
        case rel => exact ⟨j + 1, last, K, A2, c2, by omega, by omega, by omega, HKL.out, rfl, by go_num, HO3.out, HS3.out, HB3.out⟩
      subst he
      obtain rfl := HOK.out rfl
      obtain ⟨_, hst⟩ := HZ.out.1 rfl
      have hTl : last < T := by
        have h0 : ¬ (false = false ∧ T ≤ last) := fun h => hst (.inr (.inr h))
        simp at h0
        omega
      clear hst HZ HOK
      have HSL := Lib.hid (Sl.of_own HO3.out)
      have hKlen : K.length ≤ 200 := by omega
      obtain ⟨w2, hw2⟩ : ∃ w2, w2 = wc := ⟨_, rfl⟩
      subst hw2
      go_wp2
      go_loopg [14] K.length (fun kk v wl => ∃ i : Nat, i ≤ K.length ∧ K.length - i ≤ kk ∧ v = .int .i64 i ∧ ∃ q, wl = w2.drewN q)
      case atStart => exact ⟨0, by omega, by omega, rfl, 0, rfl⟩
      case round =>
        obtain ⟨i, hi, hik, rfl, q, hq⟩ := hrel
        by_cases hil : i < K.length
        · have hx := ints11_at hil
          have hle := HKL.out K[i] (List.getElem_mem hil)
          have hsl := HSL.out.draws q
          rw [← hq] at hsl
          obtain ⟨b2, o2, hA2, hc2⟩ := hsl.at_ hx
          have hbr : Below w.heap.size w wr := by rw [hq]; exact below_draws HB3.out q
          obtain ⟨d0, _⟩ := HC.out wr hbr
          subst hA2
          obtain ⟨y, hy⟩ : ∃ y, K[i] = y := ⟨_, rfl⟩
          rw [hy] at hc2 hle
          have hne : (y == T) = false := by rw [beq_eq_false_iff_ne]; omega
          have y1 : (i : Int) < K.length := by omega
          have y0 : (0 : Int) ≤ i := by omega
          have HQ := Lib.hid hq
          clear hx hle hsl hy hbr hq hTl
          go_upto_region 14 with fail
          go_quiet (fail)
          go_wp2
          go_roundg (gk - 1)
          case measure => omega
          case rel => exact ⟨i + 1, by omega, by omega, by go_num, q + nq, by rw [HQ.out, World.drewN_drewN]⟩
        · have y1 : ¬ (i : Int) < K.length := by omega
          have HS4 := Lib.hid (show Has wr g 23 (stA ⟨last, a, b, false⟩) by rw [hq]; exact HS3.out.draws q)
          have HX4 := Lib.hid (show Has wr gx 23 (stA ⟨T, a, b, false⟩) by rw [hq]; exact HX3.out.draws q)
          have HO4 := Lib.hid (show wr.ownsRow w.heap.size 3 1 (.slice A2 K.length c2) K.length (ints11 K) by rw [hq]; exact own_under HO3.out (below_draws (Below.refl _ _) q) (Nat.le_refl _))
          have HB4 := Lib.hid (show Below w.heap.size w wr by rw [hq]; exact below_draws HB3.out q)
          obtain ⟨d0, _⟩ := HC.out wr HB4.out
          clear hq HS3 HX3 HO3 HB3 HSL hi hik
          obtain ⟨hN, hO5, hC5, h15, hBD, hB5⟩ := push_facts11 (b := 8) 3 (.int .i64 T) rfl HO4.out HB4.out HB4.out.size (by omega) (by decide)
          have HS5 := Lib.hid (HS4.out.beside (.cells #[.int .i64 T] 3)); have HX5 := Lib.hid (HX4.out.beside (.cells #[.int .i64 T] 3))
          clear HS4 HX4 HO4 HB4
          go_wp2_with (with_reducible refine wpList_push (o := ⟨some 80, _, _, _, _, _⟩) rfl (.tmp 73) (.tmp 79) 39 rfl w.heap.size 3 (.int .i64 0) 1 8 Try.underlying39 info_int11 ?hz (by decide) A2 K.length c2 (ints11 K) ?hs hO5 ⟨wr.heap.size, 0, none⟩ 1 1 [.int .i64 T] ?hx hN hC5 h15 hBD ?next)
          all_goals try rfl
          case next =>
            intro A4 c4 w4 ho4 hg4
            have hs6 := HS5.out.grow hg4.out (Ne.symm (own_apart hO5.out HS5.out (by decide)))
            have hx6 := HX5.out.grow hg4.out (Ne.symm (own_apart hO5.out HX5.out (by decide)))
            have hb6 : Below w.heap.size w w4 := below_own hB5.out hBD.out.2.2 hO5.out (Nat.le_refl _) rfl hg4.out
            have HS6 := Lib.hid hs6; have HX6 := Lib.hid hx6; have HO6 := Lib.hid (own_keep ho4.out (only_row11 w4 g (stA ⟨T, a, b, false⟩)) (own_apart ho4.out hs6 (by decide)))
            have HS7 := Lib.hid (has_row11 hs6 (stA ⟨T, a, b, false⟩))
            have HB7 := Lib.hid (below_row (g := g) hb6 HG (stA ⟨T, a, b, false⟩))
            clear ho4 hg4 hs6 hx6 hb6 hN hC5 h15 hO5 hBD hB5 HS5 HX5 d0
            go_wp2_with (first | (with_reducible refine wpList_load_row (o := ⟨some 81, _, _, _, _, _⟩) rfl 23 _ rfl (gx) rfl 23 (stA ⟨T, a, b, false⟩) (0, 0) _ (HX6.out).raw11 Try.underlying23 rfl (by kernel_rfl) ?_) | (with_reducible refine wpList_store_rowTo (o := ⟨none, _, _, _, _, _⟩) rfl 23 _ _ rfl rfl (g) (stA ⟨T, a, b, false⟩) rfl rfl 23 _ (HS6.out).raw11 (by kernel_rfl) (by kernel_rfl) (by kernel_rfl) ?_))
            go_roundg (k1 - 1)
            case measure => omega
            case rel =>
              refine ⟨j + 1, T, K ++ [T], A4, c4, by omega, by omega, by simp; omega, (fun x hx => ?_), by simp, by go_num, ?_, HS7.out, HB7.out⟩
              · rcases List.mem_append.1 hx with h | h
                · have := HKL.out x h; omega
                · simp at h; omega
              · simpa [ints11] using HO6.out
end Go.Proofs.Ytjfndnpjcicogaa
