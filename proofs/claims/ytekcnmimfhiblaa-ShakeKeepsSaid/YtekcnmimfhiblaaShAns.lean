/-
  linesideref10.Answer, by contract.
-/
import Derived.Test.YtekcnmimfhiblaaShAsk
import Derived.Deep.DeepCutAuto
namespace Go.Proofs.Ytekcnmimfhiblaa
open Go.RowKit
open Go.Great

set_option maxRecDepth 100000 in
set_option maxHeartbeats 4000000 in
theorem ref_answer (p : Peer) (q : Pdu) (A : Option Addr) (c n : Nat) (hpo : p.ok) (hk : q.ok) (hn : q.body.length ≤ 2000) (hnn : n < 4294967296) (w : World) :
    Calls Try.prog 14 #[prV p, pdV q A c, .int .u32 (n : Nat)] w (ShPost3 (shAnswer p q n) w) := by
  obtain ⟨wa, hwa⟩ : ∃ wa, (((w.alloc (.cells (prA p) 26)).alloc (.cells (pdA q A c) 30)).alloc (.cells #[.int .i64 0, .int .i64 0, .int .u32 0, .int .u32 0, .int .u32 0, .int .u32 0, .int .i64 0, .int .u32 0, .int .u32 0, .int .u32 0, .int .u32 0, .int .u32 0, .int .u32 0, .bool false, .int .u32 0, .int .u32 0] 26)).alloc (.cells #[.int .i64 0, .int .i64 0, .int .i64 0, .int .u32 0, .int .u32 0, .slice none 0 0, .int .u64 0] 30) = wa := ⟨_, rfl⟩
  have hbwa : Below w.heap.size w wa := by rw [← hwa]; exact ((((Below.refl _ _).alloc (Nat.le_refl _) _).alloc (by simp) _).alloc (by simp; omega) _).alloc (by simp; omega) _
  have h0 : Has wa (w.heap.size) 26 (prA p) := by rw [← hwa]; exact ((((Has.made _ _ _).beside _).beside _).beside _)
  have h1 : Has wa (w.heap.size + 1) 30 (pdA q A c) := by rw [← hwa]; exact (((has_at (by simp)).beside _).beside _)
  have h2 : Has wa (w.heap.size + 1 + 1) 26 #[.int .i64 0, .int .i64 0, .int .u32 0, .int .u32 0, .int .u32 0, .int .u32 0, .int .i64 0, .int .u32 0, .int .u32 0, .int .u32 0, .int .u32 0, .int .u32 0, .int .u32 0, .bool false, .int .u32 0, .int .u32 0] := by rw [← hwa]; exact ((has_at (by simp)).beside _)
  have h3 : Has wa (w.heap.size + 1 + 1 + 1) 30 #[.int .i64 0, .int .i64 0, .int .i64 0, .int .u32 0, .int .u32 0, .slice none 0 0, .int .u64 0] := by rw [← hwa]; exact (has_at (by simp))
  have HWA := Lib.hid hwa; have HBWA := Lib.hid hbwa
  have HF := Lib.hid (fun W => ref_fits p q A c 1 hk (by omega) W)
  have HSEAL := Lib.hid (fun W => ref_seal p.base hpo.1 ⟨2, 1, p.train, q.a, n, [], 0⟩ none 0 ⟨hk.1, hnn, fun x hx => (by cases hx), show 0 < 18446744073709551616 by decide⟩ (Nat.zero_le _) W (sl_nil _ _))
  have HP := Lib.hid h0; have HQ := Lib.hid h1
  have HC := Lib.hid (fun W (hW : Below wa.heap.size wa W) => And.intro (h0.under hW h0.lt) (And.intro (h1.under hW h1.lt) (And.intro (h2.under hW h2.lt) (h3.under hW h3.lt))))
  clear hwa hbwa h0 h1 h2 h3
  clear hpo hk hn
  by_cases hg : p.side ≠ 0 ∧ shFits p q 1
  · have hr : shAnswer p q n = ({ p with half := true, a2 := q.a, b2 := n }, pdSeal p.base ⟨2, 1, p.train, q.a, n, [], 0⟩, 0) := by
      unfold shAnswer; rw [if_pos hg]
    rw [hr]
    rw [decide_eq_true hg.2] at HF
    have s0 : (p.side == 0) = false := by simp [hg.1]
    clear hr hg
    unfold prV pdV at *
    go_enter Try.func14, Try.ntmps14
    go_upto_region 1 with fail
    rw [HWA.out]
    clear HWA
    go_wp2_with (first | (with_reducible refine wpList_load_row (o := ⟨some 11, _, _, _, _, _⟩) rfl 26 _ rfl (w.heap.size) rfl 26 (prA p) (0, 0) _ (HP.out).raw Try.underlying26 rfl (by kernel_rfl) ?_) | (with_reducible refine wpList_load_row (o := ⟨some 12, _, _, _, _, _⟩) rfl 30 _ rfl (w.heap.size + 1) rfl 30 (pdA q A c) (0, 0) _ (HQ.out).raw Try.underlying30 rfl (by kernel_rfl) ?_))
    refine (HF.out _).mono ?_
    rintro e w1 ⟨rfl, hb1⟩
    obtain ⟨hp, hq, hz1, hz2⟩ := HC.out w1 hb1
    have hbw := HBWA.out.trans (hb1.mono HBWA.out.size)
    have c0 : w1.cell? ⟨w.heap.size, 0, none⟩ = some (.int .i64 p.side) := (hp).cell 0
    have c1 : w1.cell? ⟨w.heap.size, 1, none⟩ = some (.int .i64 p.train) := (hp).cell 1
    have c13 : w1.cell? ⟨w.heap.size, 13, none⟩ = some (.bool p.half) := (hp).cell 13
    have c14 : w1.cell? ⟨w.heap.size, 14, none⟩ = some (.int .u32 (p.a2 : Nat)) := (hp).cell 14
    have c15 : w1.cell? ⟨w.heap.size, 15, none⟩ = some (.int .u32 (p.b2 : Nat)) := (hp).cell 15
    have f13 : w1.frozen? ⟨w.heap.size, 13, none⟩ = false := (hp).thaw 13
    have f14 : w1.frozen? ⟨w.heap.size, 14, none⟩ = false := (hp).thaw 14
    have f15 : w1.frozen? ⟨w.heap.size, 15, none⟩ = false := (hp).thaw 15
    have d3 : w1.cell? ⟨w.heap.size + 1, 3, none⟩ = some (.int .u32 (q.a : Nat)) := (hq).cell 3
    obtain ⟨wb, hwb⟩ : ∃ wb, ((w1.setCell ⟨w.heap.size, 13, none⟩ (.bool true)).setCell ⟨w.heap.size, 14, none⟩ (.int .u32 (q.a : Nat))).setCell ⟨w.heap.size, 15, none⟩ (.int .u32 (n : Nat)) = wb := ⟨_, rfl⟩
    have hpb : Has wb (w.heap.size) 26 (prA { p with half := true, a2 := q.a, b2 := n }) := by rw [← hwb]; exact (((hp.stored 13 _).stored 14 _).stored 15 _).is (by kernel_rfl)
    have hqb : Has wb (w.heap.size + 1) 30 (pdA q A c) := by rw [← hwb]; exact (((hq.apart (p := ⟨w.heap.size, 13, none⟩) (by show _ ≠ w.heap.size; omega) _).apart (p := ⟨w.heap.size, 14, none⟩) (by show _ ≠ w.heap.size; omega) _).apart (p := ⟨w.heap.size, 15, none⟩) (by show _ ≠ w.heap.size; omega) _)
    have hy1 : Has wb (w.heap.size + 1 + 1) 26 #[.int .i64 0, .int .i64 0, .int .u32 0, .int .u32 0, .int .u32 0, .int .u32 0, .int .i64 0, .int .u32 0, .int .u32 0, .int .u32 0, .int .u32 0, .int .u32 0, .int .u32 0, .bool false, .int .u32 0, .int .u32 0] := by rw [← hwb]; exact (((hz1.apart (p := ⟨w.heap.size, 13, none⟩) (by show _ ≠ w.heap.size; omega) _).apart (p := ⟨w.heap.size, 14, none⟩) (by show _ ≠ w.heap.size; omega) _).apart (p := ⟨w.heap.size, 15, none⟩) (by show _ ≠ w.heap.size; omega) _)
    have hy2 : Has wb (w.heap.size + 1 + 1 + 1) 30 #[.int .i64 0, .int .i64 0, .int .i64 0, .int .u32 0, .int .u32 0, .slice none 0 0, .int .u64 0] := by rw [← hwb]; exact (((hz2.apart (p := ⟨w.heap.size, 13, none⟩) (by show _ ≠ w.heap.size; omega) _).apart (p := ⟨w.heap.size, 14, none⟩) (by show _ ≠ w.heap.size; omega) _).apart (p := ⟨w.heap.size, 15, none⟩) (by show _ ≠ w.heap.size; omega) _)
    have hbb : Below w.heap.size w wb := by rw [← hwb]; exact (((hbw.setCell (p := ⟨w.heap.size, 13, none⟩) (by show w.heap.size ≤ w.heap.size; omega) _).setCell (p := ⟨w.heap.size, 14, none⟩) (by show w.heap.size ≤ w.heap.size; omega) _).setCell (p := ⟨w.heap.size, 15, none⟩) (by show w.heap.size ≤ w.heap.size; omega) _)
    have HWB := Lib.hid hwb
    clear hwb
    have b1 : wb.cell? ⟨w.heap.size, 1, none⟩ = some (.int .i64 p.train) := (hpb).cell 1
    have e3 : wb.cell? ⟨w.heap.size + 1, 3, none⟩ = some (.int .u32 (q.a : Nat)) := (hqb).cell 3
    obtain ⟨wc, hwc⟩ : ∃ wc, wb.alloc (.cells (pdA ⟨2, 1, p.train, q.a, n, [], 0⟩ none 0) 30) = wc := ⟨_, rfl⟩
    have hbc : Below wb.heap.size wb wc := by rw [← hwc]; exact (Below.refl _ _).alloc (Nat.le_refl _) _
    obtain ⟨gx, hgx⟩ : ∃ gx, wb.heap.size = gx := ⟨_, rfl⟩
    have hxc : Has wc gx 30 (pdA ⟨2, 1, p.train, q.a, n, [], 0⟩ none 0) := by rw [← hwc, ← hgx]; exact Has.made _ _ _
    have hgl : w.heap.size + 1 + 1 + 1 < gx := by rw [← hgx]; exact hy2.lt
    have HPB := Lib.hid (hpb.under hbc hpb.lt); have HY1 := Lib.hid (hy1.under hbc hy1.lt); have HY2 := Lib.hid (hy2.under hbc hy2.lt); have HBB := Lib.hid (hbb.trans (hbc.mono hbb.size)); have HX := Lib.hid hxc
    have HWC := Lib.hid hwc; have HGX := Lib.hid hgx
    clear hb1 hp hq hz1 hz2 hbw hpb hqb hy1 hy2 hbb hwc hbc hgx hxc HF HP HQ HC
    go_upto_region 7 with fail
    rw [HWB.out]
    clear c0 c1 c13 c14 c15 f13 f14 f15 d3 HWB
    go_upto_region 8 with fail
    rw [HGX.out]
    rw [show wb.alloc (.cells #[.int .i64 2, .int .i64 1, .int .i64 p.train, .int .u32 (q.a : Nat), .int .u32 (n : Nat), .slice none 0 0, .int .u64 0] 30) = wc from HWC.out]
    clear b1 e3 HWC HGX
    go_cut [8] (fun sx wx => sx = .int .i64 0 ∧ Has wx (w.heap.size) 26 (prA { p with half := true, a2 := q.a, b2 := n }) ∧ Has wx (w.heap.size + 1 + 1) 26 (prA { p with half := true, a2 := q.a, b2 := n }) ∧ Has wx (w.heap.size + 1 + 1 + 1) 30 (pdA (pdSeal p.base ⟨2, 1, p.train, q.a, n, [], 0⟩) none 0) ∧ Has wx (gx) 30 (pdA ⟨2, 1, p.train, q.a, n, [], 0⟩ none 0) ∧ Below w.heap.size w wx)
    case first =>
      refine wp_region_held_drew (S := (fun W_ => Has W_ (w.heap.size) 26 (prA { p with half := true, a2 := q.a, b2 := n }) ∧ (∃ o_ : Array Value, Has W_ (w.heap.size + 1 + 1) 26 o_ ∧ o_.size = 16) ∧ (∃ o_ : Array Value, Has W_ (w.heap.size + 1 + 1 + 1) 30 o_ ∧ o_.size = 7) ∧ Has W_ (gx) 30 (pdA ⟨2, 1, p.train, q.a, n, [], 0⟩ none 0) ∧ Below w.heap.size w W_)) (by kernel_rfl) ?_ (fun hHeld => ?_)
      · exact ⟨HPB.out.draw, ⟨_, HY1.out.draw, by kernel_rfl⟩, ⟨_, HY2.out.draw, by kernel_rfl⟩, HX.out.draw, below_dr HBB.out⟩
      refine wpAnyH_take (i := 0) (oi := ⟨some 35, _, _, _, _, _⟩) (v := .agg (prA { p with half := true, a2 := q.a, b2 := n })) rfl (by kernel_rfl) (by kernel_rfl) (by kernel_rfl) (fun _ _ _ h => h) (yields_load_row9 rfl 26 _ rfl (w.heap.size) rfl 26 (prA { p with half := true, a2 := q.a, b2 := n }) _ (fun _ ⟨h_, _, _, _, _⟩ => h_) Try.underlying26 rfl (by kernel_rfl) (by rfl)) (by assumption) ?_
      simp only [Act.put, List.setIfInBounds_toArray, List.set_cons_zero, List.set_cons_succ]
      refine wpAnyH_take (i := 1) (oi := ⟨some 36, _, _, _, _, _⟩) (v := ?_) rfl (by kernel_rfl) (by kernel_rfl) (by kernel_rfl) (fun _ _ _ h => h) (Or.inl ⟨by rfl, ?_⟩) (by assumption) ?_
      rotate_left
      · intro w_ hSw; (try dsimp only at hSw); go_simp <;> with_reducible rfl
      simp only [Act.put, List.setIfInBounds_toArray, List.set_cons_zero, List.set_cons_succ]
      refine wpAnyH_take (i := 2) (oi := ⟨some 37, _, _, _, _, _⟩) (v := ?_) rfl (by kernel_rfl) (by kernel_rfl) (by kernel_rfl) (fun _ _ _ h => h) (Or.inl ⟨by rfl, ?_⟩) (by assumption) ?_
      rotate_left
      · intro w_ hSw; (try dsimp only at hSw); have hx2 := hSw.1.cell 2; simp only [prA] at hx2; have hx3 := hSw.1.cell 3; simp only [prA] at hx3; have hx4 := hSw.1.cell 4; simp only [prA] at hx4; have hx5 := hSw.1.cell 5; simp only [prA] at hx5; go_simp <;> with_reducible rfl
      simp only [Act.put, List.setIfInBounds_toArray, List.set_cons_zero, List.set_cons_succ]
      refine wpAnyH_take (i := 3) (oi := ⟨some 38, _, _, _, _, _⟩) (v := .agg (pdA ⟨2, 1, p.train, q.a, n, [], 0⟩ none 0)) rfl (by kernel_rfl) (by kernel_rfl) (by kernel_rfl) (fun _ _ _ h => h) (yields_load_row9 rfl 30 _ rfl (gx) rfl 30 (pdA ⟨2, 1, p.train, q.a, n, [], 0⟩ none 0) _ (fun _ ⟨_, _, _, h_, _⟩ => h_) Try.underlying30 rfl (by kernel_rfl) (by rfl)) (by assumption) ?_
      simp only [Act.put, List.setIfInBounds_toArray, List.set_cons_zero, List.set_cons_succ]
      refine wpAnyH_ready (rs := [4]) (by kernel_rfl) (by simp) ?_
      refine AllReadyH.cons (o := ⟨some 39, _, _, _, _, _⟩) rfl (fun K hK => ?_) ?_
      · go_simp
        obtain ⟨s0, s1, s2, s3, s4⟩ := hHeld
        refine (HSEAL.out _).mono ?_
        rintro e vs ⟨rfl, hbs⟩
        go_wp2_with fail
        refine hK.out _ _ ?_ (fun hHeld => ?_)
        · exact ⟨s0.under hbs s0.lt, (let ⟨o_, h_, e_⟩ := s1; ⟨o_, h_.under hbs h_.lt, e_⟩), (let ⟨o_, h_, e_⟩ := s2; ⟨o_, h_.under hbs h_.lt, e_⟩), s3.under hbs s3.lt, s4.trans (hbs.mono s4.size)⟩
        clear hK K s0 s1 s2 s3 s4
        try simp only [Act.put, List.setIfInBounds_toArray, List.set_cons_zero, List.set_cons_succ]
        refine wpAnyH_ready (rs := [5]) (by kernel_rfl) (by simp) ?_
        refine AllReadyH.cons (o := ⟨none, _, _, _, _, _⟩) rfl (fun K hK => ?_) ?_
        · rw [if_pos (by rfl)]
          obtain ⟨s0, s1, s2, s3, s4⟩ := hHeld
          obtain ⟨o_, h_, e_⟩ := s1
          refine wp_store_row 26 _ _ rfl (w.heap.size + 1 + 1) (prA { p with half := true, a2 := q.a, b2 := n }) (by rfl) (by rfl) 26 o_ h_.raw (by kernel_rfl) e_ (by kernel_rfl) ?_
          refine hK.out _ _ ?_ (fun hHeld => ?_)
          · exact ⟨has_setRow_other7 s0 (by omega) _, ⟨_, has_setRow7 h_ (prA { p with half := true, a2 := q.a, b2 := n }), by kernel_rfl⟩, (let ⟨o_, h_, e_⟩ := s2; ⟨o_, has_setRow_other7 h_ (by omega) _, e_⟩), has_setRow_other7 s3 (by omega) _, below_row s4 (by omega) _⟩
          refine wpAnyH_more (T := (fun W_ => Has W_ (w.heap.size) 26 (prA { p with half := true, a2 := q.a, b2 := n }) ∧ Has W_ (w.heap.size + 1 + 1) 26 (prA { p with half := true, a2 := q.a, b2 := n }) ∧ (∃ o_ : Array Value, Has W_ (w.heap.size + 1 + 1 + 1) 30 o_ ∧ o_.size = 7) ∧ Has W_ (gx) 30 (pdA ⟨2, 1, p.train, q.a, n, [], 0⟩ none 0) ∧ Below w.heap.size w W_)) (fun _ ⟨s0, s1, s2, s3, s4⟩ => ⟨s0, ⟨_, s1, by kernel_rfl⟩, s2, s3, s4⟩) ?_
          have hHeld2 : (fun W_ => Has W_ (w.heap.size) 26 (prA { p with half := true, a2 := q.a, b2 := n }) ∧ Has W_ (w.heap.size + 1 + 1) 26 (prA { p with half := true, a2 := q.a, b2 := n }) ∧ (∃ o_ : Array Value, Has W_ (w.heap.size + 1 + 1 + 1) 30 o_ ∧ o_.size = 7) ∧ Has W_ (gx) 30 (pdA ⟨2, 1, p.train, q.a, n, [], 0⟩ none 0) ∧ Below w.heap.size w W_) _ := ⟨has_setRow_other7 s0 (by omega) _, has_setRow7 h_ (prA { p with half := true, a2 := q.a, b2 := n }), (let ⟨o_, h_, e_⟩ := s2; ⟨o_, has_setRow_other7 h_ (by omega) _, e_⟩), has_setRow_other7 s3 (by omega) _, below_row s4 (by omega) _⟩
          clear hHeld
          have hHeld := hHeld2
          clear hHeld2 hK K h_ e_ s0 s2 s3 s4
          try simp only [Act.put]
          refine wpAnyH_ready (rs := [6]) (by kernel_rfl) (by simp) ?_
          refine AllReadyH.cons (o := ⟨none, _, _, _, _, _⟩) rfl (fun K hK => ?_) ?_
          · rw [if_pos (by rfl)]
            obtain ⟨s0, s1, s2, s3, s4⟩ := hHeld
            obtain ⟨o_, h_, e_⟩ := s2
            refine wp_store_row 30 _ _ rfl (w.heap.size + 1 + 1 + 1) (pdA (pdSeal p.base ⟨2, 1, p.train, q.a, n, [], 0⟩) none 0) (by rfl) (by rfl) 30 o_ h_.raw (by kernel_rfl) e_ (by kernel_rfl) ?_
            refine hK.out _ _ ?_ (fun hHeld => ?_)
            · exact ⟨has_setRow_other7 s0 (by omega) _, has_setRow_other7 s1 (by omega) _, ⟨_, has_setRow7 h_ (pdA (pdSeal p.base ⟨2, 1, p.train, q.a, n, [], 0⟩) none 0), by kernel_rfl⟩, has_setRow_other7 s3 (by omega) _, below_row s4 (by omega) _⟩
            refine wpAnyH_more (T := (fun W_ => Has W_ (w.heap.size) 26 (prA { p with half := true, a2 := q.a, b2 := n }) ∧ Has W_ (w.heap.size + 1 + 1) 26 (prA { p with half := true, a2 := q.a, b2 := n }) ∧ Has W_ (w.heap.size + 1 + 1 + 1) 30 (pdA (pdSeal p.base ⟨2, 1, p.train, q.a, n, [], 0⟩) none 0) ∧ Has W_ (gx) 30 (pdA ⟨2, 1, p.train, q.a, n, [], 0⟩ none 0) ∧ Below w.heap.size w W_)) (fun _ ⟨s0, s1, s2, s3, s4⟩ => ⟨s0, s1, ⟨_, s2, by kernel_rfl⟩, s3, s4⟩) ?_
            have hHeld2 : (fun W_ => Has W_ (w.heap.size) 26 (prA { p with half := true, a2 := q.a, b2 := n }) ∧ Has W_ (w.heap.size + 1 + 1) 26 (prA { p with half := true, a2 := q.a, b2 := n }) ∧ Has W_ (w.heap.size + 1 + 1 + 1) 30 (pdA (pdSeal p.base ⟨2, 1, p.train, q.a, n, [], 0⟩) none 0) ∧ Has W_ (gx) 30 (pdA ⟨2, 1, p.train, q.a, n, [], 0⟩ none 0) ∧ Below w.heap.size w W_) _ := ⟨has_setRow_other7 s0 (by omega) _, has_setRow_other7 s1 (by omega) _, has_setRow7 h_ (pdA (pdSeal p.base ⟨2, 1, p.train, q.a, n, [], 0⟩) none 0), has_setRow_other7 s3 (by omega) _, below_row s4 (by omega) _⟩
            clear hHeld
            have hHeld := hHeld2
            clear hHeld2 hK K h_ e_ s0 s1 s3 s4
            try simp only [Act.put]
            refine wpAnyH_take (i := 7) (oi := ⟨some 8, _, _, _, _, _⟩) (v := ?_) rfl (by kernel_rfl) (by kernel_rfl) (by kernel_rfl) (fun _ _ _ h => h) (Or.inl ⟨by rfl, ?_⟩) (by assumption) ?_
            rotate_left
            · intro w_ hSw; (try dsimp only at hSw); go_simp <;> with_reducible rfl
            simp only [Act.put, List.setIfInBounds_toArray, List.set_cons_zero, List.set_cons_succ]
            refine wpAnyH_done (by kernel_rfl) ?_ _
            go_wp2_with fail
            go_meet
            exact ⟨rfl, hHeld⟩
          exact AllReadyH.nil
        exact AllReadyH.nil
      exact AllReadyH.nil
    case rest =>
      obtain ⟨rfl, _, hy1, hy2, _, hyb⟩ := hcut
      have HZ1 := Lib.hid hy1; have HZ2 := Lib.hid hy2; have HZB := Lib.hid hyb
      clear hy1 hy2 hyb
      go_wp2
      refine bodyPost_ret (results_cct9 rfl _ _ (w.heap.size + 1 + 1) (w.heap.size + 1 + 1 + 1) 26 30 _ _ _ _ rfl HZ1.out Try.underlying26 rfl (by kernel_rfl) rfl HZ2.out Try.underlying30 rfl (by kernel_rfl)) rfl ?_
      exact ⟨rfl, HZB.out⟩
  · have hr : shAnswer p q n = (peer0, pdZero, 1) := by
      unfold shAnswer; rw [if_neg hg]
    rw [hr]
    obtain ⟨b, hb⟩ : ∃ b, decide (shFits p q 1) = b := ⟨_, rfl⟩
    rw [hb] at HF
    have s0 : ((p.side == 0) = true) ∨ ((p.side == 0) = false ∧ b = false) := by
      by_cases h : p.side = 0
      · exact .inl (by simp [h])
      · exact .inr ⟨by simp [h], by rw [← hb]; exact decide_eq_false (fun h2 => hg ⟨h, h2⟩)⟩
    clear hr hb hg HSEAL
    unfold prV pdV at *
    go_enter Try.func14, Try.ntmps14
    go_upto_region 1 with fail
    rw [HWA.out]
    clear HWA
    go_wp2_with (first | (with_reducible refine wpList_load_row (o := ⟨some 11, _, _, _, _, _⟩) rfl 26 _ rfl (w.heap.size) rfl 26 (prA p) (0, 0) _ (HP.out).raw Try.underlying26 rfl (by kernel_rfl) ?_) | (with_reducible refine wpList_load_row (o := ⟨some 12, _, _, _, _, _⟩) rfl 30 _ rfl (w.heap.size + 1) rfl 30 (pdA q A c) (0, 0) _ (HQ.out).raw Try.underlying30 rfl (by kernel_rfl) ?_))
    refine (HF.out _).mono ?_
    rintro e w1 ⟨rfl, hb1⟩
    obtain ⟨hp, hq, hz1, hz2⟩ := HC.out w1 hb1
    have hbw := HBWA.out.trans (hb1.mono HBWA.out.size)
    have c0 : w1.cell? ⟨w.heap.size, 0, none⟩ = some (.int .i64 p.side) := (hp).cell 0
    have HZ1 := Lib.hid hz1; have HZ2 := Lib.hid hz2; have HBW := Lib.hid hbw
    clear hb1 hp hq hz1 hz2 hbw HF HP HQ HC
    rcases s0 with s0 | ⟨s0, rfl⟩
    all_goals
      obtain ⟨hx1, hx2, hx3⟩ := two_rows HZ1.out HZ2.out (by omega) (prA peer0) (pdA pdZero none 0)
      have HX0 := Lib.hid (HZ1.out); have HX1 := Lib.hid hx1; have HX2 := Lib.hid hx2; have HX3 := Lib.hid hx3
      have HXB := Lib.hid (below_row (g := w.heap.size + 1 + 1 + 1) (below_row (g := w.heap.size + 1 + 1) HBW.out (by omega) (prA peer0)) (by omega) (pdA pdZero none 0))
      clear hx1 hx2 hx3
      go_wp2_with (first | (with_reducible refine wpList_store_rowTo (o := ⟨none, _, _, _, _, _⟩) rfl 26 _ _ rfl rfl (w.heap.size + 1 + 1) (prA peer0) rfl rfl 26 _ (HX0.out).raw (by kernel_rfl) (by kernel_rfl) (by kernel_rfl) ?_) | (with_reducible refine wpList_store_rowTo (o := ⟨none, _, _, _, _, _⟩) rfl 30 _ _ rfl rfl (w.heap.size + 1 + 1 + 1) (pdA pdZero none 0) rfl rfl 30 _ (HX1.out).raw (by kernel_rfl) (by kernel_rfl) (by kernel_rfl) ?_))
      refine bodyPost_ret (results_cct9 rfl _ _ (w.heap.size + 1 + 1) (w.heap.size + 1 + 1 + 1) 26 30 _ _ _ _ rfl HX2.out Try.underlying26 rfl (by kernel_rfl) rfl HX3.out Try.underlying30 rfl (by kernel_rfl)) rfl ?_
      exact ⟨rfl, HXB.out⟩
end Go.Proofs.Ytekcnmimfhiblaa
