/-
  linesideref10.Ask, by contract.
-/
import Derived.Test.YtekcnmimfhiblaaShKit
import Derived.Deep.DeepCutAuto
namespace Go.Proofs.Ytekcnmimfhiblaa
open Go.RowKit
open Go.Great

set_option maxRecDepth 100000 in
set_option maxHeartbeats 4000000 in
theorem ref_ask (p : Peer) (a : Nat) (w : World) :
    Calls Try.prog 11 #[prV p, .int .u32 (a : Nat)] w (ShPost3 (shAsk p a) w) := by
  obtain ⟨wa, hwa⟩ : ∃ wa, ((w.alloc (.cells (prA p) 26)).alloc (.cells #[.int .i64 0, .int .i64 0, .int .u32 0, .int .u32 0, .int .u32 0, .int .u32 0, .int .i64 0, .int .u32 0, .int .u32 0, .int .u32 0, .int .u32 0, .int .u32 0, .int .u32 0, .bool false, .int .u32 0, .int .u32 0] 26)).alloc (.cells #[.int .i64 0, .int .i64 0, .int .i64 0, .int .u32 0, .int .u32 0, .slice none 0 0, .int .u64 0] 30) = wa := ⟨_, rfl⟩
  have hbwa : Below w.heap.size w wa := by rw [← hwa]; exact (((Below.refl _ _).alloc (Nat.le_refl _) _).alloc (by simp) _).alloc (by simp; omega) _
  have h0 : Has wa (w.heap.size) 26 (prA p) := by rw [← hwa]; exact (((Has.made _ _ _).beside _).beside _)
  have h1 : Has wa (w.heap.size + 1) 26 #[.int .i64 0, .int .i64 0, .int .u32 0, .int .u32 0, .int .u32 0, .int .u32 0, .int .i64 0, .int .u32 0, .int .u32 0, .int .u32 0, .int .u32 0, .int .u32 0, .int .u32 0, .bool false, .int .u32 0, .int .u32 0] := by rw [← hwa]; exact ((has_at (by simp)).beside _)
  have h2 : Has wa (w.heap.size + 1 + 1) 30 #[.int .i64 0, .int .i64 0, .int .i64 0, .int .u32 0, .int .u32 0, .slice none 0 0, .int .u64 0] := by rw [← hwa]; exact (has_at (by simp))
  have HWA := Lib.hid hwa; have HBWA := Lib.hid hbwa
  have HN := Lib.hid (fun W => ref_numbered p W)
  have HP := Lib.hid h0
  have HC := Lib.hid (fun W (hW : Below wa.heap.size wa W) => And.intro (h0.under hW h0.lt) (And.intro (h1.under hW h1.lt) (h2.under hW h2.lt)))
  clear hwa hbwa h0 h1 h2
  obtain ⟨b, hb⟩ : ∃ b, decide (numbered p) = b := ⟨_, rfl⟩
  rw [hb] at HN
  by_cases hg : p.side = 0 ∧ b = true
  · obtain ⟨hs, rfl⟩ := hg
    have hr : shAsk p a = ({ p with state := 1, a := a, b := 0, key := key0 }, ⟨1, 0, p.train, a, 0, [], 0⟩, 0) := by
      unfold shAsk; rw [if_pos ⟨hs, of_decide_eq_true hb⟩]
    rw [hr]
    have s0 : (p.side != 0) = false := by simp [hs]
    clear hr hb hs
    unfold prV
    go_enter Try.func11, Try.ntmps11
    go_upto_region 1 with fail
    rw [HWA.out]
    clear HWA
    go_wp2_with (with_reducible refine wpList_load_row (o := ⟨some 8, _, _, _, _, _⟩) rfl 26 _ rfl (w.heap.size) rfl 26 (prA p) (0, 0) _ (HP.out).raw Try.underlying26 rfl (by kernel_rfl) ?_)
    refine (HN.out _).mono ?_
    rintro e w1 ⟨rfl, hb1⟩
    obtain ⟨hp, hz1, hz2⟩ := HC.out w1 hb1
    have hbw := HBWA.out.trans (hb1.mono HBWA.out.size)
    have c0 : w1.cell? ⟨w.heap.size, 0, none⟩ = some (.int .i64 p.side) := (hp).cell 0
    have c6 : w1.cell? ⟨w.heap.size, 6, none⟩ = some (.int .i64 p.state) := (hp).cell 6
    have c7 : w1.cell? ⟨w.heap.size, 7, none⟩ = some (.int .u32 (p.a : Nat)) := (hp).cell 7
    have c8 : w1.cell? ⟨w.heap.size, 8, none⟩ = some (.int .u32 (p.b : Nat)) := (hp).cell 8
    have c9 : w1.cell? ⟨w.heap.size, 9, none⟩ = some (.int .u32 (p.key.a : Nat)) := (hp).cell 9
    have c10 : w1.cell? ⟨w.heap.size, 10, none⟩ = some (.int .u32 (p.key.b : Nat)) := (hp).cell 10
    have c11 : w1.cell? ⟨w.heap.size, 11, none⟩ = some (.int .u32 (p.key.c : Nat)) := (hp).cell 11
    have c12 : w1.cell? ⟨w.heap.size, 12, none⟩ = some (.int .u32 (p.key.d : Nat)) := (hp).cell 12
    have f6 : w1.frozen? ⟨w.heap.size, 6, none⟩ = false := (hp).thaw 6
    have f7 : w1.frozen? ⟨w.heap.size, 7, none⟩ = false := (hp).thaw 7
    have f8 : w1.frozen? ⟨w.heap.size, 8, none⟩ = false := (hp).thaw 8
    have f9 : w1.frozen? ⟨w.heap.size, 9, none⟩ = false := (hp).thaw 9
    have f10 : w1.frozen? ⟨w.heap.size, 10, none⟩ = false := (hp).thaw 10
    have f11 : w1.frozen? ⟨w.heap.size, 11, none⟩ = false := (hp).thaw 11
    have f12 : w1.frozen? ⟨w.heap.size, 12, none⟩ = false := (hp).thaw 12
    obtain ⟨wb, hwb⟩ : ∃ wb, ((((((w1.setCell ⟨w.heap.size, 6, none⟩ (.int .i64 1)).setCell ⟨w.heap.size, 7, none⟩ (.int .u32 (a : Nat))).setCell ⟨w.heap.size, 8, none⟩ (.int .u32 0)).setCell ⟨w.heap.size, 9, none⟩ (.int .u32 0)).setCell ⟨w.heap.size, 10, none⟩ (.int .u32 0)).setCell ⟨w.heap.size, 11, none⟩ (.int .u32 0)).setCell ⟨w.heap.size, 12, none⟩ (.int .u32 0) = wb := ⟨_, rfl⟩
    have hpb : Has wb (w.heap.size) 26 (prA { p with state := 1, a := a, b := 0, key := key0 }) := by rw [← hwb]; exact (((((((hp.stored 6 _).stored 7 _).stored 8 _).stored 9 _).stored 10 _).stored 11 _).stored 12 _).is (by kernel_rfl)
    have hy1 : Has wb (w.heap.size + 1) 26 #[.int .i64 0, .int .i64 0, .int .u32 0, .int .u32 0, .int .u32 0, .int .u32 0, .int .i64 0, .int .u32 0, .int .u32 0, .int .u32 0, .int .u32 0, .int .u32 0, .int .u32 0, .bool false, .int .u32 0, .int .u32 0] := by rw [← hwb]; exact (((((((hz1.apart (p := ⟨w.heap.size, 6, none⟩) (by show _ ≠ w.heap.size; omega) _).apart (p := ⟨w.heap.size, 7, none⟩) (by show _ ≠ w.heap.size; omega) _).apart (p := ⟨w.heap.size, 8, none⟩) (by show _ ≠ w.heap.size; omega) _).apart (p := ⟨w.heap.size, 9, none⟩) (by show _ ≠ w.heap.size; omega) _).apart (p := ⟨w.heap.size, 10, none⟩) (by show _ ≠ w.heap.size; omega) _).apart (p := ⟨w.heap.size, 11, none⟩) (by show _ ≠ w.heap.size; omega) _).apart (p := ⟨w.heap.size, 12, none⟩) (by show _ ≠ w.heap.size; omega) _)
    have hy2 : Has wb (w.heap.size + 1 + 1) 30 #[.int .i64 0, .int .i64 0, .int .i64 0, .int .u32 0, .int .u32 0, .slice none 0 0, .int .u64 0] := by rw [← hwb]; exact (((((((hz2.apart (p := ⟨w.heap.size, 6, none⟩) (by show _ ≠ w.heap.size; omega) _).apart (p := ⟨w.heap.size, 7, none⟩) (by show _ ≠ w.heap.size; omega) _).apart (p := ⟨w.heap.size, 8, none⟩) (by show _ ≠ w.heap.size; omega) _).apart (p := ⟨w.heap.size, 9, none⟩) (by show _ ≠ w.heap.size; omega) _).apart (p := ⟨w.heap.size, 10, none⟩) (by show _ ≠ w.heap.size; omega) _).apart (p := ⟨w.heap.size, 11, none⟩) (by show _ ≠ w.heap.size; omega) _).apart (p := ⟨w.heap.size, 12, none⟩) (by show _ ≠ w.heap.size; omega) _)
    have hbb : Below w.heap.size w wb := by rw [← hwb]; exact (((((((hbw.setCell (p := ⟨w.heap.size, 6, none⟩) (by show w.heap.size ≤ w.heap.size; omega) _).setCell (p := ⟨w.heap.size, 7, none⟩) (by show w.heap.size ≤ w.heap.size; omega) _).setCell (p := ⟨w.heap.size, 8, none⟩) (by show w.heap.size ≤ w.heap.size; omega) _).setCell (p := ⟨w.heap.size, 9, none⟩) (by show w.heap.size ≤ w.heap.size; omega) _).setCell (p := ⟨w.heap.size, 10, none⟩) (by show w.heap.size ≤ w.heap.size; omega) _).setCell (p := ⟨w.heap.size, 11, none⟩) (by show w.heap.size ≤ w.heap.size; omega) _).setCell (p := ⟨w.heap.size, 12, none⟩) (by show w.heap.size ≤ w.heap.size; omega) _)
    have HWB := Lib.hid hwb
    clear hwb
    have HPB := Lib.hid hpb; have HY1 := Lib.hid hy1; have HY2 := Lib.hid hy2; have HBB := Lib.hid hbb
    clear hb1 hp hz1 hz2 hbw hpb hy1 hy2 hbb HN HP HC
    go_upto_region 8 with fail
    rw [HWB.out]
    clear c0 c6 c7 c8 c9 c10 c11 c12 f6 f7 f8 f9 f10 f11 f12 HWB
    go_cut [6] (fun s6 wx => s6 = .int .i64 0 ∧ Has wx (w.heap.size) 26 (prA { p with state := 1, a := a, b := 0, key := key0 }) ∧ Has wx (w.heap.size + 1) 26 (prA { p with state := 1, a := a, b := 0, key := key0 }) ∧ Has wx (w.heap.size + 1 + 1) 30 (pdA ⟨1, 0, p.train, a, 0, [], 0⟩ none 0) ∧ Below w.heap.size w wx)
    case first =>
      refine wp_region_held_drew (S := (fun W_ => Has W_ (w.heap.size) 26 (prA { p with state := 1, a := a, b := 0, key := key0 }) ∧ (∃ o_ : Array Value, Has W_ (w.heap.size + 1) 26 o_ ∧ o_.size = 16) ∧ (∃ o_ : Array Value, Has W_ (w.heap.size + 1 + 1) 30 o_ ∧ o_.size = 7) ∧ Below w.heap.size w W_)) (by kernel_rfl) ?_ (fun hHeld => ?_)
      · exact ⟨HPB.out.draw, ⟨_, HY1.out.draw, by kernel_rfl⟩, ⟨_, HY2.out.draw, by kernel_rfl⟩, below_dr HBB.out⟩
      refine wpAnyH_take (i := 0) (oi := ⟨some 25, _, _, _, _, _⟩) (v := .agg (prA { p with state := 1, a := a, b := 0, key := key0 })) rfl (by kernel_rfl) (by kernel_rfl) (by kernel_rfl) (fun _ _ _ h => h) (yields_load_row9 rfl 26 _ rfl (w.heap.size) rfl 26 (prA { p with state := 1, a := a, b := 0, key := key0 }) _ (fun _ ⟨h_, _, _, _⟩ => h_) Try.underlying26 rfl (by kernel_rfl) (by rfl)) (by assumption) ?_
      simp only [Act.put, List.setIfInBounds_toArray, List.set_cons_zero, List.set_cons_succ]
      refine wpAnyH_take (i := 1) (oi := ⟨some 26, _, _, _, _, _⟩) (v := ?_) rfl (by kernel_rfl) (by kernel_rfl) (by kernel_rfl) (fun _ _ _ h => h) (Or.inl ⟨by rfl, ?_⟩) (by assumption) ?_
      rotate_left
      · intro w_ hSw; (try dsimp only at hSw); go_simp <;> with_reducible rfl
      simp only [Act.put, List.setIfInBounds_toArray, List.set_cons_zero, List.set_cons_succ]
      refine wpAnyH_take (i := 2) (oi := ⟨some 27, _, _, _, _, _⟩) (v := ?_) rfl (by kernel_rfl) (by kernel_rfl) (by kernel_rfl) (fun _ _ _ h => h) (Or.inl ⟨by rfl, ?_⟩) (by assumption) ?_
      rotate_left
      · intro w_ hSw; (try dsimp only at hSw); have hx := hSw.1.cell 1; simp only [prA] at hx; go_simp <;> with_reducible rfl
      simp only [Act.put, List.setIfInBounds_toArray, List.set_cons_zero, List.set_cons_succ]
      refine wpAnyH_take (i := 3) (oi := ⟨some 28, _, _, _, _, _⟩) (v := ?_) rfl (by kernel_rfl) (by kernel_rfl) (by kernel_rfl) (fun _ _ _ h => h) (Or.inl ⟨by rfl, ?_⟩) (by assumption) ?_
      rotate_left
      · intro w_ hSw; (try dsimp only at hSw); go_simp <;> with_reducible rfl
      simp only [Act.put, List.setIfInBounds_toArray, List.set_cons_zero, List.set_cons_succ]
      refine wpAnyH_take (i := 4) (oi := ⟨some 29, _, _, _, _, _⟩) (v := ?_) rfl (by kernel_rfl) (by kernel_rfl) (by kernel_rfl) (fun _ _ _ h => h) (Or.inl ⟨by rfl, ?_⟩) (by assumption) ?_
      rotate_left
      · intro w_ hSw; (try dsimp only at hSw); go_simp <;> with_reducible rfl
      simp only [Act.put, List.setIfInBounds_toArray, List.set_cons_zero, List.set_cons_succ]
      refine wpAnyH_ready (rs := [5]) (by kernel_rfl) (by simp) ?_
      refine AllReadyH.cons (o := ⟨none, _, _, _, _, _⟩) rfl (fun K hK => ?_) ?_
      · rw [if_pos (by rfl)]
        obtain ⟨s0, s1, s2, s3⟩ := hHeld
        obtain ⟨o_, h_, e_⟩ := s1
        refine wp_store_row 26 _ _ rfl (w.heap.size + 1) (prA { p with state := 1, a := a, b := 0, key := key0 }) (by rfl) (by rfl) 26 o_ h_.raw (by kernel_rfl) e_ (by kernel_rfl) ?_
        refine hK.out _ _ ?_ (fun hHeld => ?_)
        · exact ⟨has_setRow_other7 s0 (by omega) _, ⟨_, has_setRow7 h_ (prA { p with state := 1, a := a, b := 0, key := key0 }), by kernel_rfl⟩, (let ⟨o_, h_, e_⟩ := s2; ⟨o_, has_setRow_other7 h_ (by omega) _, e_⟩), below_row s3 (by omega) _⟩
        refine wpAnyH_more (T := (fun W_ => Has W_ (w.heap.size) 26 (prA { p with state := 1, a := a, b := 0, key := key0 }) ∧ Has W_ (w.heap.size + 1) 26 (prA { p with state := 1, a := a, b := 0, key := key0 }) ∧ (∃ o_ : Array Value, Has W_ (w.heap.size + 1 + 1) 30 o_ ∧ o_.size = 7) ∧ Below w.heap.size w W_)) (fun _ ⟨s0, s1, s2, s3⟩ => ⟨s0, ⟨_, s1, by kernel_rfl⟩, s2, s3⟩) ?_
        have hHeld2 : (fun W_ => Has W_ (w.heap.size) 26 (prA { p with state := 1, a := a, b := 0, key := key0 }) ∧ Has W_ (w.heap.size + 1) 26 (prA { p with state := 1, a := a, b := 0, key := key0 }) ∧ (∃ o_ : Array Value, Has W_ (w.heap.size + 1 + 1) 30 o_ ∧ o_.size = 7) ∧ Below w.heap.size w W_) _ := ⟨has_setRow_other7 s0 (by omega) _, has_setRow7 h_ (prA { p with state := 1, a := a, b := 0, key := key0 }), (let ⟨o_, h_, e_⟩ := s2; ⟨o_, has_setRow_other7 h_ (by omega) _, e_⟩), below_row s3 (by omega) _⟩
        clear hHeld
        have hHeld := hHeld2
        clear hHeld2 hK K h_ e_ s0 s2 s3
        try simp only [Act.put]
        refine wpAnyH_ready (rs := [6]) (by kernel_rfl) (by simp) ?_
        refine AllReadyH.cons (o := ⟨none, _, _, _, _, _⟩) rfl (fun K hK => ?_) ?_
        · rw [if_pos (by rfl)]
          obtain ⟨s0, s1, s2, s3⟩ := hHeld
          obtain ⟨o_, h_, e_⟩ := s2
          refine wp_store_row 30 _ _ rfl (w.heap.size + 1 + 1) (pdA ⟨1, 0, p.train, a, 0, [], 0⟩ none 0) (by rfl) (by rfl) 30 o_ h_.raw (by kernel_rfl) e_ (by kernel_rfl) ?_
          refine hK.out _ _ ?_ (fun hHeld => ?_)
          · exact ⟨has_setRow_other7 s0 (by omega) _, has_setRow_other7 s1 (by omega) _, ⟨_, has_setRow7 h_ (pdA ⟨1, 0, p.train, a, 0, [], 0⟩ none 0), by kernel_rfl⟩, below_row s3 (by omega) _⟩
          refine wpAnyH_more (T := (fun W_ => Has W_ (w.heap.size) 26 (prA { p with state := 1, a := a, b := 0, key := key0 }) ∧ Has W_ (w.heap.size + 1) 26 (prA { p with state := 1, a := a, b := 0, key := key0 }) ∧ Has W_ (w.heap.size + 1 + 1) 30 (pdA ⟨1, 0, p.train, a, 0, [], 0⟩ none 0) ∧ Below w.heap.size w W_)) (fun _ ⟨s0, s1, s2, s3⟩ => ⟨s0, s1, ⟨_, s2, by kernel_rfl⟩, s3⟩) ?_
          have hHeld2 : (fun W_ => Has W_ (w.heap.size) 26 (prA { p with state := 1, a := a, b := 0, key := key0 }) ∧ Has W_ (w.heap.size + 1) 26 (prA { p with state := 1, a := a, b := 0, key := key0 }) ∧ Has W_ (w.heap.size + 1 + 1) 30 (pdA ⟨1, 0, p.train, a, 0, [], 0⟩ none 0) ∧ Below w.heap.size w W_) _ := ⟨has_setRow_other7 s0 (by omega) _, has_setRow_other7 s1 (by omega) _, has_setRow7 h_ (pdA ⟨1, 0, p.train, a, 0, [], 0⟩ none 0), below_row s3 (by omega) _⟩
          clear hHeld
          have hHeld := hHeld2
          clear hHeld2 hK K h_ e_ s0 s1 s3
          try simp only [Act.put]
          refine wpAnyH_take (i := 7) (oi := ⟨some 6, _, _, _, _, _⟩) (v := ?_) rfl (by kernel_rfl) (by kernel_rfl) (by kernel_rfl) (fun _ _ _ h => h) (Or.inl ⟨by rfl, ?_⟩) (by assumption) ?_
          rotate_left
          · intro w_ hSw; (try dsimp only at hSw); go_simp <;> with_reducible rfl
          simp only [Act.put, List.setIfInBounds_toArray, List.set_cons_zero, List.set_cons_succ]
          refine wpAnyH_done (by kernel_rfl) ?_ _
          go_wp2_with fail
          go_meet
          exact ⟨rfl, hHeld⟩
        exact AllReadyH.nil
      exact AllReadyH.nil
    case rest =>
      obtain ⟨rfl, _, hy1, hy2, hyb⟩ := hcut
      have HZ1 := Lib.hid hy1; have HZ2 := Lib.hid hy2; have HZB := Lib.hid hyb
      clear hy1 hy2 hyb
      go_wp2
      refine bodyPost_ret (results_cct9 rfl _ _ (w.heap.size + 1) (w.heap.size + 1 + 1) 26 30 _ _ _ _ rfl HZ1.out Try.underlying26 rfl (by kernel_rfl) rfl HZ2.out Try.underlying30 rfl (by kernel_rfl)) rfl ?_
      exact ⟨rfl, HZB.out⟩
  · have hr : shAsk p a = (peer0, pdZero, 1) := by
      unfold shAsk; rw [if_neg (fun h => hg ⟨h.1, by rw [← hb]; exact decide_eq_true h.2⟩)]
    rw [hr]
    have s0 : ((p.side != 0) = true) ∨ ((p.side != 0) = false ∧ b = false) := by
      by_cases h : p.side = 0
      · exact .inr ⟨by simp [h], by cases b with | false => rfl | true => exact absurd ⟨h, rfl⟩ hg⟩
      · exact .inl (by simp [h])
    clear hr hb hg
    unfold prV
    go_enter Try.func11, Try.ntmps11
    go_upto_region 1 with fail
    rw [HWA.out]
    clear HWA
    go_wp2_with (with_reducible refine wpList_load_row (o := ⟨some 8, _, _, _, _, _⟩) rfl 26 _ rfl (w.heap.size) rfl 26 (prA p) (0, 0) _ (HP.out).raw Try.underlying26 rfl (by kernel_rfl) ?_)
    refine (HN.out _).mono ?_
    rintro e w1 ⟨rfl, hb1⟩
    obtain ⟨hp, hz1, hz2⟩ := HC.out w1 hb1
    have hbw := HBWA.out.trans (hb1.mono HBWA.out.size)
    have c0 : w1.cell? ⟨w.heap.size, 0, none⟩ = some (.int .i64 p.side) := (hp).cell 0
    have HZ1 := Lib.hid hz1; have HZ2 := Lib.hid hz2; have HBW := Lib.hid hbw
    clear hb1 hp hz1 hz2 hbw HN HP HC
    rcases s0 with s0 | ⟨s0, rfl⟩
    all_goals
      obtain ⟨hx1, hx2, hx3⟩ := two_rows HZ1.out HZ2.out (by omega) (prA peer0) (pdA pdZero none 0)
      have HX0 := Lib.hid (HZ1.out); have HX1 := Lib.hid hx1; have HX2 := Lib.hid hx2; have HX3 := Lib.hid hx3
      have HXB := Lib.hid (below_row (g := w.heap.size + 1 + 1) (below_row (g := w.heap.size + 1) HBW.out (by omega) (prA peer0)) (by omega) (pdA pdZero none 0))
      clear hx1 hx2 hx3
      go_wp2_with (first | (with_reducible refine wpList_store_rowTo (o := ⟨none, _, _, _, _, _⟩) rfl 26 _ _ rfl rfl (w.heap.size + 1) (prA peer0) rfl rfl 26 _ (HX0.out).raw (by kernel_rfl) (by kernel_rfl) (by kernel_rfl) ?_) | (with_reducible refine wpList_store_rowTo (o := ⟨none, _, _, _, _, _⟩) rfl 30 _ _ rfl rfl (w.heap.size + 1 + 1) (pdA pdZero none 0) rfl rfl 30 _ (HX1.out).raw (by kernel_rfl) (by kernel_rfl) (by kernel_rfl) ?_))
      refine bodyPost_ret (results_cct9 rfl _ _ (w.heap.size + 1) (w.heap.size + 1 + 1) 26 30 _ _ _ _ rfl HX2.out Try.underlying26 rfl (by kernel_rfl) rfl HX3.out Try.underlying30 rfl (by kernel_rfl)) rfl ?_
      exact ⟨rfl, HXB.out⟩
end Go.Proofs.Ytekcnmimfhiblaa
