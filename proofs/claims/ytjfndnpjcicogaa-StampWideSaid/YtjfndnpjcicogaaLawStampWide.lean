/-
  linesidelaw11.StampWide, walked.
-/
import Derived.Test.YtjfndnpjcicogaaSpEq
namespace Go.Proofs.Ytjfndnpjcicogaa
open Go.RowKit
open Go.Great

theorem take_last (s : Stp) (t now : Int) (h : takeE s t now = 0) : (takeS s t now).last = t := by
  unfold takeS; rw [if_pos h]
theorem take_zero (s : Stp) (t now : Int) : takeE s t now = 0 ↔ fitB s t now = true ∧ ¬ stale s t now := by
  unfold takeE
  by_cases hf : fitB s t now = true
  · rw [if_pos hf]
    by_cases hs : stale s t now
    · rw [if_pos hs]; exact ⟨fun h => absurd h (by decide), fun h => absurd hs h.2⟩
    · rw [if_neg hs]; exact ⟨fun _ => ⟨hf, hs⟩, fun _ => rfl⟩
  · rw [if_neg hf]; exact ⟨fun h => absurd h (by decide), fun h => absurd h.1 hf⟩
theorem take_wider (s : Stp) (t now more : Int) (h0 : 0 ≤ more) (h3 : s.ahead + more ≤ 4294967294) (h4 : s.behind + more ≤ 4294967294) (h : takeE s t now = 0) :
    takeE ⟨s.last, s.ahead + more, s.behind + more, s.free⟩ t now = 0 := by
  rw [take_zero] at h ⊢
  obtain ⟨hf, hs⟩ := h
  have hn := fit_nums hf
  constructor
  · simp only [fitB, mayS, isT, Bool.and_eq_true, Bool.or_eq_true, decide_eq_true_eq, beq_iff_eq] at hf ⊢
    omega
  · intro hw
    refine hs ?_
    unfold stale at *
    dsimp only at *
    rcases hw with h | h | h
    · exact .inl (by omega)
    · exact .inr (.inl (by omega))
    · exact .inr (.inr h)

set_option maxRecDepth 100000 in
set_option maxHeartbeats 2000000 in
theorem stampWide_walk (s : Stp) (t now more : Int) (w : World) (_wt : (Lit.int .i64 t).wf = true) (_wn : (Lit.int .i64 now).wf = true) (wm : (Lit.int .i64 more).wf = true) :
    Calls Try.prog 7 #[stV s, .int .i64 t, .int .i64 now, .int .i64 more] w fun e w' => e = .returned (.bool true) ∧ Below w.heap.size w w' := by
  obtain ⟨wa, hwa⟩ : ∃ wa, w.alloc (.cells (stA s) 23) = wa := ⟨_, rfl⟩
  have hbwa : Below w.heap.size w wa := by rw [← hwa]; exact (Below.refl _ _).alloc (Nat.le_refl _) _
  have h0 : Has wa (w.heap.size) 23 (stA s) := by rw [← hwa]; exact (Has.made _ _ _)
  have HWA := Lib.hid hwa; have HBWA := Lib.hid hbwa
  have HB0 : Hid (Has wa (w.heap.size) 23 (stA s) ∧ Below w.heap.size w wa) := Lib.hid ⟨h0, hbwa⟩
  have HAW := Lib.hid (awake11_any wa)
  have hm := int_bounds11 wm
  clear hwa hbwa h0 HBWA wm
  unfold stV
  go_enter Try.func7, Try.ntmps7
  go_upto_region 1 with fail
  rw [HWA.out]
  clear HWA
  obtain ⟨s0, s1⟩ := HB0.out
  have HK := Lib.hid (HAW.out)
  clear s0 s1
  go_wp2_with fail
  refine HK.out.mono ?_
  rintro e v1 ⟨rfl, hb1⟩
  obtain ⟨s0, s1⟩ := HB0.out
  have hbn : Below wa.heap.size wa v1 := hb1
  have HB1 : Hid (Has v1 (w.heap.size) 23 (stA s) ∧ Below w.heap.size w v1) := Lib.hid ⟨s0.under hbn s0.lt, s1.trans (hbn.mono s1.size)⟩
  clear s0 s1
  clear HK HB0 HAW hb1
  clear hbn
  obtain ⟨s0, s1⟩ := HB1.out
  have c1 : v1.cell? ⟨w.heap.size, 1, none⟩ = some (.int .i64 s.ahead) := s0.cell 1
  have c2 : v1.cell? ⟨w.heap.size, 2, none⟩ = some (.int .i64 s.behind) := s0.cell 2
  clear s0 s1
  by_cases hgo : 0 ≤ more ∧ more ≤ 4294967294 ∧ 0 ≤ s.ahead ∧ 0 ≤ s.behind ∧ s.ahead ≤ 4294967294 - more ∧ s.behind ≤ 4294967294 - more
  rotate_left
  · have hno : (more < 0) ∨ (¬ more < 0 ∧ 4294967294 < more) ∨ (¬ more < 0 ∧ ¬ 4294967294 < more ∧ s.ahead < 0) ∨ (¬ more < 0 ∧ ¬ 4294967294 < more ∧ ¬ s.ahead < 0 ∧ s.behind < 0) ∨ (¬ more < 0 ∧ ¬ 4294967294 < more ∧ ¬ s.ahead < 0 ∧ ¬ s.behind < 0 ∧ 4294967294 - more < s.ahead) ∨ (¬ more < 0 ∧ ¬ 4294967294 < more ∧ ¬ s.ahead < 0 ∧ ¬ s.behind < 0 ∧ ¬ 4294967294 - more < s.ahead ∧ 4294967294 - more < s.behind) := by omega
    have HBF := Lib.hid HB1.out.2
    clear HB1 hgo
    rcases hno with x1 | ⟨x1, x2⟩ | ⟨x1, x2, x3⟩ | ⟨x1, x2, x3, x4⟩ | ⟨x1, x2, x3, x4, x5⟩ | ⟨x1, x2, x3, x4, x5, x6⟩
    · clear hm c1 c2
      go_wp2
      go_ret
      exact ⟨rfl, HBF.out⟩
    · clear hm c1 c2
      go_wp2
      go_ret
      exact ⟨rfl, HBF.out⟩
    all_goals
      have hr : wrap64 (4294967294 - more) = 4294967294 - more := IntWalk.wrap64_in _ (by omega)
      clear hm
      go_wp2
      go_ret
      exact ⟨rfl, HBF.out⟩
  have hr : wrap64 (4294967294 - more) = 4294967294 - more := IntWalk.wrap64_in _ (by omega)
  obtain ⟨g1, g2, g3, g4, g5, g6⟩ := hgo
  have x1 : ¬ more < 0 := by omega
  have x2 : ¬ 4294967294 < more := by omega
  have x3 : ¬ s.ahead < 0 := by omega
  have x4 : ¬ s.behind < 0 := by omega
  have x5 : ¬ 4294967294 - more < s.ahead := by omega
  have x6 : ¬ 4294967294 - more < s.behind := by omega
  have hr1 : wrap64 (s.ahead + more) = s.ahead + more := IntWalk.wrap64_in _ (by omega)
  have hr2 : wrap64 (s.behind + more) = s.behind + more := IntWalk.wrap64_in _ (by omega)
  have hwd := take_wider s t now more g1 (by omega) (by omega)
  have hla := take_last ⟨s.last, s.ahead + more, s.behind + more, s.free⟩ t now
  have hT := fun W => take_any s t now W
  have hV := fun W => take_any ⟨s.last, s.ahead + more, s.behind + more, s.free⟩ t now W
  unfold stE stV at hT hV
  generalize takeS s t now = r at *
  generalize takeE s t now = e at *
  generalize takeS ⟨s.last, s.ahead + more, s.behind + more, s.free⟩ t now = q at *
  generalize takeE ⟨s.last, s.ahead + more, s.behind + more, s.free⟩ t now = d at *
  have HT := Lib.hid hT; have HV := Lib.hid hV; have HWD := Lib.hid hwd; have HLA := Lib.hid hla
  clear hT hV hm hwd hla g1 g2 g3 g4 g5 g6
  obtain ⟨s0, s1⟩ := HB1.out
  have HL0 := Lib.hid s0
  have HK := Lib.hid (HT.out v1)
  clear s0 s1
  go_wp2_with (first | (with_reducible refine wpList_load_row (o := ⟨some 52, _, _, _, _, _⟩) rfl 23 _ rfl (w.heap.size) rfl 23 (stA s) (0, 0) _ (HL0.out).raw11 Try.underlying23 rfl (by kernel_rfl) ?_))
  refine HK.out.mono ?_
  rintro e v2 ⟨rfl, hb1⟩
  obtain ⟨s0, s1⟩ := HB1.out
  have hbn : Below v1.heap.size v1 v2 := hb1
  have HB2 : Hid (Has v2 (w.heap.size) 23 (stA s) ∧ Below w.heap.size w v2) := Lib.hid ⟨s0.under hbn s0.lt, s1.trans (hbn.mono s1.size)⟩
  clear s0 s1
  clear HK HB1 HL0 HT hb1 c1 c2 x1 x2 x3 x4 x5 x6 hr
  clear hbn
  obtain ⟨s0, s1⟩ := HB2.out
  have lt2_2 : w.heap.size < v2.heap.size := s0.lt
  have le2_2 : w.heap.size ≤ v2.heap.size := s1.size
  have HS0 : Hid (Has (v2.alloc (.cells #[.int .i64 0, .int .i64 0, .int .i64 0, .bool false] 23)) (v2.heap.size) 23 #[.int .i64 0, .int .i64 0, .int .i64 0, .bool false]) := Lib.hid (Has.made v2 23 #[.int .i64 0, .int .i64 0, .int .i64 0, .bool false])
  obtain ⟨v3, hv3⟩ : ∃ v3, (v2.alloc (.cells #[.int .i64 0, .int .i64 0, .int .i64 0, .bool false] 23)).setRow (v2.heap.size) (stA r) = v3 := ⟨_, rfl⟩
  have hbw : Below v2.heap.size v2 v3 := by rw [← hv3]; exact (below_row (g := v2.heap.size) (Below.alloc (Below.refl v2.heap.size v2) (Nat.le_refl _) (.cells #[.int .i64 0, .int .i64 0, .int .i64 0, .bool false] 23)) (by omega) (stA r))
  have HB3 : Hid (Has v3 (w.heap.size) 23 (stA s) ∧ Has v3 (v2.heap.size) 23 (stA r) ∧ Below w.heap.size w v3) := Lib.hid ⟨s0.under hbw s0.lt, (by rw [← hv3]; exact (has_row11 (Has.made v2 23 #[.int .i64 0, .int .i64 0, .int .i64 0, .bool false]) (stA r))), s1.trans (hbw.mono s1.size)⟩
  clear hbw
  have HWv3 := Lib.hid hv3
  clear s0 s1
  clear hv3 HB2
  go_upto_region 5 with (first | (with_reducible refine wpList_store_rowTo (o := ⟨none, _, _, _, _, _⟩) rfl 23 _ _ rfl rfl (v2.heap.size) (stA r) rfl rfl 23 _ (HS0.out).raw11 (by kernel_rfl) (by kernel_rfl) (by kernel_rfl) ?_))
  rw [HWv3.out]
  clear HWv3 HS0
  obtain ⟨s0, s1, s2⟩ := HB3.out
  have lt3_3 : v2.heap.size < v3.heap.size := s1.lt
  have le3_3 : w.heap.size ≤ v3.heap.size := s2.size
  have HS0 : Hid (Has (v3.alloc (.cells #[.int .i64 0, .int .i64 0, .int .i64 0, .bool false] 23)) (v3.heap.size) 23 #[.int .i64 0, .int .i64 0, .int .i64 0, .bool false]) := Lib.hid (Has.made v3 23 #[.int .i64 0, .int .i64 0, .int .i64 0, .bool false])
  obtain ⟨v4, hv4⟩ : ∃ v4, (v3.alloc (.cells #[.int .i64 0, .int .i64 0, .int .i64 0, .bool false] 23)).setRow (v3.heap.size) (stA s) = v4 := ⟨_, rfl⟩
  have hbw : Below v3.heap.size v3 v4 := by rw [← hv4]; exact (below_row (g := v3.heap.size) (Below.alloc (Below.refl v3.heap.size v3) (Nat.le_refl _) (.cells #[.int .i64 0, .int .i64 0, .int .i64 0, .bool false] 23)) (by omega) (stA s))
  have HB4 : Hid (Has v4 (w.heap.size) 23 (stA s) ∧ Has v4 (v2.heap.size) 23 (stA r) ∧ Has v4 (v3.heap.size) 23 (stA s) ∧ Below w.heap.size w v4) := Lib.hid ⟨s0.under hbw s0.lt, s1.under hbw s1.lt, (by rw [← hv4]; exact (has_row11 (Has.made v3 23 #[.int .i64 0, .int .i64 0, .int .i64 0, .bool false]) (stA s))), s2.trans (hbw.mono s2.size)⟩
  clear hbw
  have HWv4 := Lib.hid hv4
  have HL0 := Lib.hid s0
  clear s0 s1 s2
  clear hv4 HB3
  go_upto_region 6 with (first | (with_reducible refine wpList_load_row (o := ⟨some 58, _, _, _, _, _⟩) rfl 23 _ rfl (w.heap.size) rfl 23 (stA s) (0, 0) _ (HL0.out).raw11 Try.underlying23 rfl (by kernel_rfl) ?_) | (with_reducible refine wpList_store_rowTo (o := ⟨none, _, _, _, _, _⟩) rfl 23 _ _ rfl rfl (v3.heap.size) (stA s) rfl rfl 23 _ (HS0.out).raw11 (by kernel_rfl) (by kernel_rfl) (by kernel_rfl) ?_))
  rw [HWv4.out]
  clear HWv4 HS0 HL0
  obtain ⟨s0, s1, s2, s3⟩ := HB4.out
  have k1_ : v4.cell? ⟨v3.heap.size, 1, none⟩ = some (.int .i64 s.ahead) := s2.cell 1
  have z1_ := s2.thaw 1
  have k2_ : v4.cell? ⟨v3.heap.size, 2, none⟩ = some (.int .i64 s.behind) := s2.cell 2
  have z2_ := s2.thaw 2
  obtain ⟨v5, hv5⟩ : ∃ v5, (v4.setCell ⟨v3.heap.size, 1, none⟩ (.int .i64 (s.ahead + more))).setCell ⟨v3.heap.size, 2, none⟩ (.int .i64 (s.behind + more)) = v5 := ⟨_, rfl⟩
  have HB5 : Hid (Has v5 (w.heap.size) 23 (stA s) ∧ Has v5 (v2.heap.size) 23 (stA r) ∧ Has v5 (v3.heap.size) 23 (stA ⟨s.last, s.ahead + more, s.behind + more, s.free⟩) ∧ Below w.heap.size w v5) := Lib.hid (by rw [← hv5]; exact ⟨((s0.apart (p := ⟨v3.heap.size, 1, none⟩) (by show _ ≠ v3.heap.size; omega) _).apart (p := ⟨v3.heap.size, 2, none⟩) (by show _ ≠ v3.heap.size; omega) _), ((s1.apart (p := ⟨v3.heap.size, 1, none⟩) (by show _ ≠ v3.heap.size; omega) _).apart (p := ⟨v3.heap.size, 2, none⟩) (by show _ ≠ v3.heap.size; omega) _), (((s2.stored 1 _).stored 2 _).is11 (by kernel_rfl)), ((s3.setCell (p := ⟨v3.heap.size, 1, none⟩) (by show w.heap.size ≤ v3.heap.size; omega) _).setCell (p := ⟨v3.heap.size, 2, none⟩) (by show w.heap.size ≤ v3.heap.size; omega) _)⟩)
  have HWv5 := Lib.hid hv5
  clear s0 s1 s2 s3
  clear hv5 HB4
  go_upto_region 8 with fail
  rw [HWv5.out]
  clear HWv5 k1_ z1_ k2_ z2_
  obtain ⟨s0, s1, s2, s3⟩ := HB5.out
  have HL0 := Lib.hid s2
  have HK := Lib.hid (HV.out v5)
  clear s0 s1 s2 s3
  go_wp2_with (first | (with_reducible refine wpList_load_row (o := ⟨some 70, _, _, _, _, _⟩) rfl 23 _ rfl (v3.heap.size) rfl 23 (stA ⟨s.last, s.ahead + more, s.behind + more, s.free⟩) (0, 0) _ (HL0.out).raw11 Try.underlying23 rfl (by kernel_rfl) ?_))
  refine HK.out.mono ?_
  rintro e v6 ⟨rfl, hb1⟩
  obtain ⟨s0, s1, s2, s3⟩ := HB5.out
  have hbn : Below v5.heap.size v5 v6 := hb1
  have HB6 : Hid (Has v6 (w.heap.size) 23 (stA s) ∧ Has v6 (v2.heap.size) 23 (stA r) ∧ Has v6 (v3.heap.size) 23 (stA ⟨s.last, s.ahead + more, s.behind + more, s.free⟩) ∧ Below w.heap.size w v6) := Lib.hid ⟨s0.under hbn s0.lt, s1.under hbn s1.lt, s2.under hbn s2.lt, s3.trans (hbn.mono s3.size)⟩
  clear s0 s1 s2 s3
  clear HK HB5 HL0 HV hb1 hr1 hr2
  clear hbn
  obtain ⟨s0, s1, s2, s3⟩ := HB6.out
  have lt6_6 : v3.heap.size < v6.heap.size := s2.lt
  have le6_6 : w.heap.size ≤ v6.heap.size := s3.size
  have HS0 : Hid (Has (v6.alloc (.cells #[.int .i64 0, .int .i64 0, .int .i64 0, .bool false] 23)) (v6.heap.size) 23 #[.int .i64 0, .int .i64 0, .int .i64 0, .bool false]) := Lib.hid (Has.made v6 23 #[.int .i64 0, .int .i64 0, .int .i64 0, .bool false])
  obtain ⟨v7, hv7⟩ : ∃ v7, (v6.alloc (.cells #[.int .i64 0, .int .i64 0, .int .i64 0, .bool false] 23)).setRow (v6.heap.size) (stA q) = v7 := ⟨_, rfl⟩
  have hbw : Below v6.heap.size v6 v7 := by rw [← hv7]; exact (below_row (g := v6.heap.size) (Below.alloc (Below.refl v6.heap.size v6) (Nat.le_refl _) (.cells #[.int .i64 0, .int .i64 0, .int .i64 0, .bool false] 23)) (by omega) (stA q))
  have HB7 : Hid (Has v7 (w.heap.size) 23 (stA s) ∧ Has v7 (v2.heap.size) 23 (stA r) ∧ Has v7 (v3.heap.size) 23 (stA ⟨s.last, s.ahead + more, s.behind + more, s.free⟩) ∧ Has v7 (v6.heap.size) 23 (stA q) ∧ Below w.heap.size w v7) := Lib.hid ⟨s0.under hbw s0.lt, s1.under hbw s1.lt, s2.under hbw s2.lt, (by rw [← hv7]; exact (has_row11 (Has.made v6 23 #[.int .i64 0, .int .i64 0, .int .i64 0, .bool false]) (stA q))), s3.trans (hbw.mono s3.size)⟩
  clear hbw
  have HWv7 := Lib.hid hv7
  clear s0 s1 s2 s3
  clear hv7 HB6
  go_upto_region 9 with (first | (with_reducible refine wpList_store_rowTo (o := ⟨none, _, _, _, _, _⟩) rfl 23 _ _ rfl rfl (v6.heap.size) (stA q) rfl rfl 23 _ (HS0.out).raw11 (by kernel_rfl) (by kernel_rfl) (by kernel_rfl) ?_))
  rw [HWv7.out]
  clear HWv7 HS0
  obtain ⟨s0, s1, s2, s3, s4⟩ := HB7.out
  have d0 : v7.cell? ⟨v6.heap.size, 0, none⟩ = some (.int .i64 q.last) := s3.cell 0
  have HBF := Lib.hid s4
  clear s0 s1 s2 s3 s4
  by_cases he : e = 0
  · have hd := HWD.out he
    have hq := HLA.out hd
    rw [hq] at d0
    subst he hd
    clear hq HWD HLA
    go_wp2
    go_ret
    exact ⟨by simp, HBF.out⟩
  · have he1 : (e != 0) = true := by simp [he]
    clear he HWD HLA
    go_wp2
    go_ret
    exact ⟨rfl, HBF.out⟩
end Go.Proofs.Ytjfndnpjcicogaa
