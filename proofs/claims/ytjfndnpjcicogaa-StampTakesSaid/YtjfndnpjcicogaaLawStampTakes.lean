/-
  linesidelaw11.StampTakes, walked.
-/
import Derived.Test.YtjfndnpjcicogaaSpEq
namespace Go.Proofs.Ytjfndnpjcicogaa
open Go.RowKit
open Go.Great

set_option maxRecDepth 100000 in
set_option maxHeartbeats 2000000 in
theorem stampTakes_walk (s : Stp) (t now : Int) (w : World) (_wt : (Lit.int .i64 t).wf = true) (_wn : (Lit.int .i64 now).wf = true) :
    Calls Try.prog 3 #[stV s, .int .i64 t, .int .i64 now] w fun e w' => e = .returned (.bool true) ∧ Below w.heap.size w w' := by
  obtain ⟨wa, hwa⟩ : ∃ wa, w.alloc (.cells (stA s) 23) = wa := ⟨_, rfl⟩
  have hbwa : Below w.heap.size w wa := by rw [← hwa]; exact (Below.refl _ _).alloc (Nat.le_refl _) _
  have h0 : Has wa (w.heap.size) 23 (stA s) := by rw [← hwa]; exact (Has.made _ _ _)
  have HWA := Lib.hid hwa; have HBWA := Lib.hid hbwa
  have HB0 : Hid (Has wa (w.heap.size) 23 (stA s) ∧ Below w.heap.size w wa) := Lib.hid ⟨h0, hbwa⟩
  have HAW := Lib.hid (awake11_any wa)
  have hT := fun W => take_any s t now W
  have hQ := fun W => rtake_any s t now W
  have hM := fun W => may_any s W
  have hN := fun W => rmay_any s W
  have hR := fun W => rel_any s W
  have hS := fun W => rrel_any s W
  unfold stE stV at hT hQ
  unfold stV at hM hN hR hS
  generalize takeS s t now = r at *
  generalize takeE s t now = e at *
  generalize mayS s = m at *
  generalize relS s = q at *
  have HT := Lib.hid hT; have HQ := Lib.hid hQ; have HM := Lib.hid hM; have HN := Lib.hid hN; have HR := Lib.hid hR; have HS := Lib.hid hS
  clear hwa hbwa h0 HBWA hT hQ hM hN hR hS
  unfold stV
  go_enter Try.func3, Try.ntmps3
  go_upto_region 1 with fail
  rw [HWA.out]
  clear HWA
  obtain ⟨s0, s1⟩ := HB0.out
  have HK := Lib.hid (HAW.out)
  clear s0 s1
  go_wp2_with fail
  refine HK.out.mono ?_
  rintro e v1 ⟨rfl, hb1⟩
  obtain ⟨s0, s1⟩ := HB0.out
  have hbn : Below wa.heap.size wa v1 := hb1
  have HB1 : Hid (Has v1 (w.heap.size) 23 (stA s) ∧ Below w.heap.size w v1) := Lib.hid ⟨s0.under hbn s0.lt, s1.trans (hbn.mono s1.size)⟩
  clear s0 s1
  clear HK HB0 HAW hb1
  clear hbn
  obtain ⟨s0, s1⟩ := HB1.out
  have HL0 := Lib.hid s0
  have HK := Lib.hid (HT.out v1)
  clear s0 s1
  go_wp2_with (first | (with_reducible refine wpList_load_row (o := ⟨some 14, _, _, _, _, _⟩) rfl 23 _ rfl (w.heap.size) rfl 23 (stA s) (0, 0) _ (HL0.out).raw11 Try.underlying23 rfl (by kernel_rfl) ?_))
  refine HK.out.mono ?_
  rintro e v2 ⟨rfl, hb1⟩
  obtain ⟨s0, s1⟩ := HB1.out
  have hbn : Below v1.heap.size v1 v2 := hb1
  have HB2 : Hid (Has v2 (w.heap.size) 23 (stA s) ∧ Below w.heap.size w v2) := Lib.hid ⟨s0.under hbn s0.lt, s1.trans (hbn.mono s1.size)⟩
  clear s0 s1
  clear HK HB1 HL0 HT hb1
  clear hbn
  obtain ⟨s0, s1⟩ := HB2.out
  have lt2_2 : w.heap.size < v2.heap.size := s0.lt
  have le2_2 : w.heap.size ≤ v2.heap.size := s1.size
  have HS0 : Hid (Has (v2.alloc (.cells #[.int .i64 0, .int .i64 0, .int .i64 0, .bool false] 23)) (v2.heap.size) 23 #[.int .i64 0, .int .i64 0, .int .i64 0, .bool false]) := Lib.hid (Has.made v2 23 #[.int .i64 0, .int .i64 0, .int .i64 0, .bool false])
  obtain ⟨v3, hv3⟩ : ∃ v3, (v2.alloc (.cells #[.int .i64 0, .int .i64 0, .int .i64 0, .bool false] 23)).setRow (v2.heap.size) (stA r) = v3 := ⟨_, rfl⟩
  have hbw : Below v2.heap.size v2 v3 := by rw [← hv3]; exact (below_row (g := v2.heap.size) (Below.alloc (Below.refl v2.heap.size v2) (Nat.le_refl _) (.cells #[.int .i64 0, .int .i64 0, .int .i64 0, .bool false] 23)) (by omega) (stA r))
  have HB3 : Hid (Has v3 (w.heap.size) 23 (stA s) ∧ Has v3 (v2.heap.size) 23 (stA r) ∧ Below w.heap.size w v3) := Lib.hid ⟨s0.under hbw s0.lt, (by rw [← hv3]; exact (has_row11 (Has.made v2 23 #[.int .i64 0, .int .i64 0, .int .i64 0, .bool false]) (stA r))), s1.trans (hbw.mono s1.size)⟩
  clear hbw
  have HWv3 := Lib.hid hv3
  clear s0 s1
  clear hv3 HB2
  go_upto_region 3 with (first | (with_reducible refine wpList_store_rowTo (o := ⟨none, _, _, _, _, _⟩) rfl 23 _ _ rfl rfl (v2.heap.size) (stA r) rfl rfl 23 _ (HS0.out).raw11 (by kernel_rfl) (by kernel_rfl) (by kernel_rfl) ?_))
  rw [HWv3.out]
  clear HWv3 HS0
  obtain ⟨s0, s1, s2⟩ := HB3.out
  have HL0 := Lib.hid s0
  have HK := Lib.hid (HQ.out v3)
  clear s0 s1 s2
  go_wp2_with (first | (with_reducible refine wpList_load_row (o := ⟨some 21, _, _, _, _, _⟩) rfl 23 _ rfl (w.heap.size) rfl 23 (stA s) (0, 0) _ (HL0.out).raw11 Try.underlying23 rfl (by kernel_rfl) ?_))
  refine HK.out.mono ?_
  rintro e v4 ⟨rfl, hb1⟩
  obtain ⟨s0, s1, s2⟩ := HB3.out
  have hbn : Below v3.heap.size v3 v4 := hb1
  have HB4 : Hid (Has v4 (w.heap.size) 23 (stA s) ∧ Has v4 (v2.heap.size) 23 (stA r) ∧ Below w.heap.size w v4) := Lib.hid ⟨s0.under hbn s0.lt, s1.under hbn s1.lt, s2.trans (hbn.mono s2.size)⟩
  clear s0 s1 s2
  clear HK HB3 HL0 HQ hb1
  clear hbn
  obtain ⟨s0, s1, s2⟩ := HB4.out
  have lt4_4 : v2.heap.size < v4.heap.size := s1.lt
  have le4_4 : w.heap.size ≤ v4.heap.size := s2.size
  have HS0 : Hid (Has (v4.alloc (.cells #[.int .i64 0, .int .i64 0, .int .i64 0, .bool false] 23)) (v4.heap.size) 23 #[.int .i64 0, .int .i64 0, .int .i64 0, .bool false]) := Lib.hid (Has.made v4 23 #[.int .i64 0, .int .i64 0, .int .i64 0, .bool false])
  obtain ⟨v5, hv5⟩ : ∃ v5, (v4.alloc (.cells #[.int .i64 0, .int .i64 0, .int .i64 0, .bool false] 23)).setRow (v4.heap.size) (stA r) = v5 := ⟨_, rfl⟩
  have hbw : Below v4.heap.size v4 v5 := by rw [← hv5]; exact (below_row (g := v4.heap.size) (Below.alloc (Below.refl v4.heap.size v4) (Nat.le_refl _) (.cells #[.int .i64 0, .int .i64 0, .int .i64 0, .bool false] 23)) (by omega) (stA r))
  have HB5 : Hid (Has v5 (w.heap.size) 23 (stA s) ∧ Has v5 (v2.heap.size) 23 (stA r) ∧ Has v5 (v4.heap.size) 23 (stA r) ∧ Below w.heap.size w v5) := Lib.hid ⟨s0.under hbw s0.lt, s1.under hbw s1.lt, (by rw [← hv5]; exact (has_row11 (Has.made v4 23 #[.int .i64 0, .int .i64 0, .int .i64 0, .bool false]) (stA r))), s2.trans (hbw.mono s2.size)⟩
  clear hbw
  have HWv5 := Lib.hid hv5
  clear s0 s1 s2
  clear hv5 HB4
  go_upto_region 4 with (first | (with_reducible refine wpList_store_rowTo (o := ⟨none, _, _, _, _, _⟩) rfl 23 _ _ rfl rfl (v4.heap.size) (stA r) rfl rfl 23 _ (HS0.out).raw11 (by kernel_rfl) (by kernel_rfl) (by kernel_rfl) ?_))
  rw [HWv5.out]
  clear HWv5 HS0
  go_cut [6] (fun sx wx => sx = .bool true ∧ Has wx (w.heap.size) 23 (stA s) ∧ Has wx (v2.heap.size) 23 (stA r) ∧ Has wx (v4.heap.size) 23 (stA r) ∧ Below w.heap.size w wx)
  case first =>
    obtain ⟨s0, s1, s2, s3⟩ := HB5.out
    refine wp_region_held_drew (S := (fun W_ => Has W_ (w.heap.size) 23 (stA s) ∧ Has W_ (v2.heap.size) 23 (stA r) ∧ Has W_ (v4.heap.size) 23 (stA r) ∧ Below w.heap.size w W_)) (by kernel_rfl) ?_ (fun hHeld => ?_)
    · exact ⟨s0.draw, s1.draw, s2.draw, below_dr11 s3⟩
    clear s0 s1 s2 s3
    refine wpAnyH_take (i := 0) (oi := ⟨some 27, _, _, _, _, _⟩) (v := ?_) rfl (by kernel_rfl) (by kernel_rfl) (by kernel_rfl) (fun _ _ _ h => h) (Or.inl ⟨by rfl, ?_⟩) (by assumption) ?_
    rotate_left
    · intro w_ hSw; (try dsimp only at hSw); go_simp <;> with_reducible rfl
    simp only [Act.put, List.setIfInBounds_toArray, List.set_cons_zero, List.set_cons_succ]
    refine wpAnyH_take (i := 1) (oi := ⟨some 28, _, _, _, _, _⟩) (v := ?_) rfl (by kernel_rfl) (by kernel_rfl) (by kernel_rfl) (fun _ _ _ h => h) (Or.inl ⟨by rfl, ?_⟩) (by assumption) ?_
    rotate_left
    · intro w_ hSw; (try dsimp only at hSw); go_simp <;> with_reducible rfl
    simp only [Act.put, List.setIfInBounds_toArray, List.set_cons_zero, List.set_cons_succ]
    refine wpAnyH_take (i := 2) (oi := ⟨some 29, _, _, _, _, _⟩) (v := .agg (stA r)) rfl (by kernel_rfl) (by kernel_rfl) (by kernel_rfl) (fun _ _ _ h => h) (yields_load_row11 23 _ rfl (v2.heap.size) rfl 23 (stA r) _ (fun _ ⟨_, h_, _, _⟩ => h_) Try.underlying23 rfl (by kernel_rfl) (by rfl)) (by assumption) ?_
    simp only [Act.put, List.setIfInBounds_toArray, List.set_cons_zero, List.set_cons_succ]
    refine wpAnyH_take (i := 3) (oi := ⟨some 30, _, _, _, _, _⟩) (v := .agg (stA r)) rfl (by kernel_rfl) (by kernel_rfl) (by kernel_rfl) (fun _ _ _ h => h) (yields_load_row11 23 _ rfl (v4.heap.size) rfl 23 (stA r) _ (fun _ ⟨_, _, h_, _⟩ => h_) Try.underlying23 rfl (by kernel_rfl) (by rfl)) (by assumption) ?_
    simp only [Act.put, List.setIfInBounds_toArray, List.set_cons_zero, List.set_cons_succ]
    refine wpAnyH_take (i := 4) (oi := ⟨some 31, _, _, _, _, _⟩) (v := .bool true) rfl (by kernel_rfl) (by kernel_rfl) (by kernel_rfl) (fun _ _ _ h => h) (yields_aggCmp11 .eql 23 _ _ _ rfl _ _ rfl rfl st_plain11 _ (eql_st11 r) (by rfl)) (by assumption) ?_
    simp only [Act.put, List.setIfInBounds_toArray, List.set_cons_zero, List.set_cons_succ]
    refine wpAnyH_take (i := 5) (oi := ⟨some 32, _, _, _, _, _⟩) (v := ?_) rfl (by kernel_rfl) (by kernel_rfl) (by kernel_rfl) (fun _ _ _ h => h) (Or.inl ⟨by rfl, ?_⟩) (by assumption) ?_
    rotate_left
    · intro w_ hSw; (try dsimp only at hSw); go_simp <;> with_reducible rfl
    simp only [Act.put, List.setIfInBounds_toArray, List.set_cons_zero, List.set_cons_succ]
    refine wpAnyH_take (i := 6) (oi := ⟨some 33, _, _, _, _, _⟩) (v := ?_) rfl (by kernel_rfl) (by kernel_rfl) (by kernel_rfl) (fun _ _ _ h => h) (Or.inl ⟨by rfl, ?_⟩) (by assumption) ?_
    rotate_left
    · intro w_ hSw; (try dsimp only at hSw); go_simp <;> with_reducible rfl
    simp only [Act.put, List.setIfInBounds_toArray, List.set_cons_zero, List.set_cons_succ]
    refine wpAnyH_take (i := 7) (oi := ⟨some 34, _, _, _, _, _⟩) (v := ?_) rfl (by kernel_rfl) (by kernel_rfl) (by kernel_rfl) (fun _ _ _ h => h) (Or.inl ⟨by rfl, ?_⟩) (by assumption) ?_
    rotate_left
    · intro w_ hSw; (try dsimp only at hSw); go_simp <;> with_reducible rfl
    simp only [Act.put, List.setIfInBounds_toArray, List.set_cons_zero, List.set_cons_succ]
    refine wpAnyH_take (i := 8) (oi := ⟨some 35, _, _, _, _, _⟩) (v := ?_) rfl (by kernel_rfl) (by kernel_rfl) (by kernel_rfl) (fun _ _ _ h => h) (Or.inl ⟨by rfl, ?_⟩) (by assumption) ?_
    rotate_left
    · intro w_ hSw; (try dsimp only at hSw); go_simp <;> with_reducible rfl
    simp only [Act.put, List.setIfInBounds_toArray, List.set_cons_zero, List.set_cons_succ]
    refine wpAnyH_take (i := 9) (oi := ⟨some 36, _, _, _, _, _⟩) (v := ?_) rfl (by kernel_rfl) (by kernel_rfl) (by kernel_rfl) (fun _ _ _ h => h) (Or.inl ⟨by rfl, ?_⟩) (by assumption) ?_
    rotate_left
    · intro w_ hSw; (try dsimp only at hSw); go_simp <;> with_reducible rfl
    simp only [Act.put, List.setIfInBounds_toArray, List.set_cons_zero, List.set_cons_succ]
    refine wpAnyH_take (i := 10) (oi := ⟨some 37, _, _, _, _, _⟩) (v := ?_) rfl (by kernel_rfl) (by kernel_rfl) (by kernel_rfl) (fun _ _ _ h => h) (Or.inl ⟨by rfl, ?_⟩) (by assumption) ?_
    rotate_left
    · intro w_ hSw; (try dsimp only at hSw); go_simp <;> with_reducible rfl
    simp only [Act.put, List.setIfInBounds_toArray, List.set_cons_zero, List.set_cons_succ]
    refine wpAnyH_take (i := 11) (oi := ⟨some 38, _, _, _, _, _⟩) (v := ?_) rfl (by kernel_rfl) (by kernel_rfl) (by kernel_rfl) (fun _ _ _ h => h) (Or.inl ⟨by rfl, ?_⟩) (by assumption) ?_
    rotate_left
    · intro w_ hSw; (try dsimp only at hSw); go_simp <;> with_reducible rfl
    simp only [Act.put, List.setIfInBounds_toArray, List.set_cons_zero, List.set_cons_succ]
    refine wpAnyH_take (i := 12) (oi := ⟨some 39, _, _, _, _, _⟩) (v := .agg (stA s)) rfl (by kernel_rfl) (by kernel_rfl) (by kernel_rfl) (fun _ _ _ h => h) (yields_load_row11 23 _ rfl (w.heap.size) rfl 23 (stA s) _ (fun _ ⟨h_, _, _, _⟩ => h_) Try.underlying23 rfl (by kernel_rfl) (by rfl)) (by assumption) ?_
    simp only [Act.put, List.setIfInBounds_toArray, List.set_cons_zero, List.set_cons_succ]
    refine wpAnyH_take (i := 14) (oi := ⟨some 41, _, _, _, _, _⟩) (v := .agg (stA s)) rfl (by kernel_rfl) (by kernel_rfl) (by kernel_rfl) (fun _ _ _ h => h) (yields_load_row11 23 _ rfl (w.heap.size) rfl 23 (stA s) _ (fun _ ⟨h_, _, _, _⟩ => h_) Try.underlying23 rfl (by kernel_rfl) (by rfl)) (by assumption) ?_
    simp only [Act.put, List.setIfInBounds_toArray, List.set_cons_zero, List.set_cons_succ]
    refine wpAnyH_ready (rs := [13]) (by kernel_rfl) (by simp) ?_
    refine AllReadyH.cons (o := ⟨some 40, _, _, _, _, _⟩) rfl (fun K hK => ?_) ?_
    · go_simp
      obtain ⟨s0, s1, s2, s3⟩ := hHeld
      refine (HM.out _).mono ?_
      rintro e vs ⟨rfl, hbs⟩
      go_wp2_with fail
      refine hK.out _ _ ?_ (fun hHeld => ?_)
      · exact ⟨s0.under hbs s0.lt, s1.under hbs s1.lt, s2.under hbs s2.lt, s3.trans (hbs.mono s3.size)⟩
      clear hK K s0 s1 s2 s3
      try simp only [Act.put, List.setIfInBounds_toArray, List.set_cons_zero, List.set_cons_succ]
      refine wpAnyH_ready (rs := [15]) (by kernel_rfl) (by simp) ?_
      refine AllReadyH.cons (o := ⟨some 42, _, _, _, _, _⟩) rfl (fun K hK => ?_) ?_
      · go_simp
        obtain ⟨s0, s1, s2, s3⟩ := hHeld
        refine (HN.out _).mono ?_
        rintro e vs ⟨rfl, hbs⟩
        go_wp2_with fail
        refine hK.out _ _ ?_ (fun hHeld => ?_)
        · exact ⟨s0.under hbs s0.lt, s1.under hbs s1.lt, s2.under hbs s2.lt, s3.trans (hbs.mono s3.size)⟩
        clear hK K s0 s1 s2 s3
        try simp only [Act.put, List.setIfInBounds_toArray, List.set_cons_zero, List.set_cons_succ]
        refine wpAnyH_take (i := 16) (oi := ⟨some 43, _, _, _, _, _⟩) (v := ?_) rfl (by kernel_rfl) (by kernel_rfl) (by kernel_rfl) (fun _ _ _ h => h) (Or.inl ⟨by rfl, ?_⟩) (by assumption) ?_
        rotate_left
        · intro w_ hSw; (try dsimp only at hSw); go_simp <;> with_reducible rfl
        simp only [Act.put, List.setIfInBounds_toArray, List.set_cons_zero, List.set_cons_succ]
        refine wpAnyH_take (i := 17) (oi := ⟨some 44, _, _, _, _, _⟩) (v := ?_) rfl (by kernel_rfl) (by kernel_rfl) (by kernel_rfl) (fun _ _ _ h => h) (Or.inl ⟨by rfl, ?_⟩) (by assumption) ?_
        rotate_left
        · intro w_ hSw; (try dsimp only at hSw); go_simp <;> with_reducible rfl
        simp only [Act.put, List.setIfInBounds_toArray, List.set_cons_zero, List.set_cons_succ]
        refine wpAnyH_take (i := 18) (oi := ⟨some 45, _, _, _, _, _⟩) (v := ?_) rfl (by kernel_rfl) (by kernel_rfl) (by kernel_rfl) (fun _ _ _ h => h) (Or.inl ⟨by rfl, ?_⟩) (by assumption) ?_
        rotate_left
        · intro w_ hSw; (try dsimp only at hSw); go_simp <;> with_reducible rfl
        simp only [Act.put, List.setIfInBounds_toArray, List.set_cons_zero, List.set_cons_succ]
        refine wpAnyH_take (i := 19) (oi := ⟨some 46, _, _, _, _, _⟩) (v := .agg (stA s)) rfl (by kernel_rfl) (by kernel_rfl) (by kernel_rfl) (fun _ _ _ h => h) (yields_load_row11 23 _ rfl (w.heap.size) rfl 23 (stA s) _ (fun _ ⟨h_, _, _, _⟩ => h_) Try.underlying23 rfl (by kernel_rfl) (by rfl)) (by assumption) ?_
        simp only [Act.put, List.setIfInBounds_toArray, List.set_cons_zero, List.set_cons_succ]
        refine wpAnyH_take (i := 21) (oi := ⟨some 48, _, _, _, _, _⟩) (v := .agg (stA s)) rfl (by kernel_rfl) (by kernel_rfl) (by kernel_rfl) (fun _ _ _ h => h) (yields_load_row11 23 _ rfl (w.heap.size) rfl 23 (stA s) _ (fun _ ⟨h_, _, _, _⟩ => h_) Try.underlying23 rfl (by kernel_rfl) (by rfl)) (by assumption) ?_
        simp only [Act.put, List.setIfInBounds_toArray, List.set_cons_zero, List.set_cons_succ]
        refine wpAnyH_ready (rs := [20]) (by kernel_rfl) (by simp) ?_
        refine AllReadyH.cons (o := ⟨some 47, _, _, _, _, _⟩) rfl (fun K hK => ?_) ?_
        · go_simp
          obtain ⟨s0, s1, s2, s3⟩ := hHeld
          refine (HR.out _).mono ?_
          rintro e vs ⟨rfl, hbs⟩
          go_wp2_with fail
          refine hK.out _ _ ?_ (fun hHeld => ?_)
          · exact ⟨s0.under hbs s0.lt, s1.under hbs s1.lt, s2.under hbs s2.lt, s3.trans (hbs.mono s3.size)⟩
          clear hK K s0 s1 s2 s3
          try simp only [Act.put, List.setIfInBounds_toArray, List.set_cons_zero, List.set_cons_succ]
          refine wpAnyH_ready (rs := [22]) (by kernel_rfl) (by simp) ?_
          refine AllReadyH.cons (o := ⟨some 49, _, _, _, _, _⟩) rfl (fun K hK => ?_) ?_
          · go_simp
            obtain ⟨s0, s1, s2, s3⟩ := hHeld
            refine (HS.out _).mono ?_
            rintro e vs ⟨rfl, hbs⟩
            go_wp2_with fail
            refine hK.out _ _ ?_ (fun hHeld => ?_)
            · exact ⟨s0.under hbs s0.lt, s1.under hbs s1.lt, s2.under hbs s2.lt, s3.trans (hbs.mono s3.size)⟩
            clear hK K s0 s1 s2 s3
            try simp only [Act.put, List.setIfInBounds_toArray, List.set_cons_zero, List.set_cons_succ]
            refine wpAnyH_take (i := 23) (oi := ⟨some 50, _, _, _, _, _⟩) (v := .bool true) rfl (by kernel_rfl) (by kernel_rfl) (by kernel_rfl) (fun _ _ _ h => h) (yields_aggCmp11 .eql 23 _ _ _ rfl _ _ rfl rfl st_plain11 _ (eql_st11 q) (by rfl)) (by assumption) ?_
            simp only [Act.put, List.setIfInBounds_toArray, List.set_cons_zero, List.set_cons_succ]
            refine wpAnyH_take (i := 24) (oi := ⟨some 51, _, _, _, _, _⟩) (v := ?_) rfl (by kernel_rfl) (by kernel_rfl) (by kernel_rfl) (fun _ _ _ h => h) (Or.inl ⟨by rfl, ?_⟩) (by assumption) ?_
            rotate_left
            · intro w_ hSw; (try dsimp only at hSw); go_simp <;> with_reducible rfl
            simp only [Act.put, List.setIfInBounds_toArray, List.set_cons_zero, List.set_cons_succ]
            refine wpAnyH_take (i := 25) (oi := ⟨some 6, _, _, _, _, _⟩) (v := ?_) rfl (by kernel_rfl) (by kernel_rfl) (by kernel_rfl) (fun _ _ _ h => h) (Or.inl ⟨by rfl, ?_⟩) (by assumption) ?_
            rotate_left
            · intro w_ hSw; (try dsimp only at hSw); go_simp <;> with_reducible rfl
            simp only [Act.put, List.setIfInBounds_toArray, List.set_cons_zero, List.set_cons_succ]
            refine wpAnyH_done (by kernel_rfl) ?_ _
            go_wp2_with fail
            go_meet
            exact ⟨rfl, hHeld⟩
          exact AllReadyH.nil
        exact AllReadyH.nil
      exact AllReadyH.nil
    exact AllReadyH.nil
  case rest =>
    obtain ⟨rfl, _, _, _, hyb⟩ := hcut
    have HZB := Lib.hid hyb
    clear hyb
    go_wp2
    go_ret
    exact ⟨rfl, HZB.out⟩
end Go.Proofs.Ytjfndnpjcicogaa
