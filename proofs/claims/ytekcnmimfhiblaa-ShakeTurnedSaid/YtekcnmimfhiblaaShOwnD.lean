/-
  package shake as landed: Ask, Answer, Confirm.
-/
import Derived.Test.YtekcnmimfhiblaaMgE
import Derived.Deep.DeepCutAuto
namespace Go.Proofs.Ytekcnmimfhiblaa
open Go.RowKit
open Go.Great

theorem ask_may (p : Peer) (a : Nat) : pdMay ⟨1, 0, p.train, a, 0, [], 0⟩ ↔ numbered p :=
  ⟨fun h => ⟨h.1, h.2.1⟩, fun h => ⟨h.1, h.2, .inl ⟨rfl, rfl, rfl, rfl, rfl⟩⟩⟩

set_option maxRecDepth 100000 in
set_option maxHeartbeats 4000000 in
theorem osh_ask (p : Peer) (a : Nat) (hpo : p.ok) (ha : a < 4294967296) (w : World) :
    Calls Try.prog 10 #[prV p, .int .u32 (a : Nat)] w (ShPost3 (shAsk p a) w) := by
  have _ := hpo
  obtain ⟨wa, hwa⟩ : ∃ wa, ((w.alloc (.cells (prA p) 26)).alloc (.cells #[.int .i64 0, .int .i64 0, .int .u32 0, .int .u32 0, .int .u32 0, .int .u32 0, .int .i64 0, .int .u32 0, .int .u32 0, .int .u32 0, .int .u32 0, .int .u32 0, .int .u32 0, .bool false, .int .u32 0, .int .u32 0] 26)).alloc (.cells #[.int .i64 0, .int .i64 0, .int .i64 0, .int .u32 0, .int .u32 0, .slice none 0 0, .int .u64 0] 30) = wa := ⟨_, rfl⟩
  have hbwa : Below w.heap.size w wa := by rw [← hwa]; exact (((Below.refl _ _).alloc (Nat.le_refl _) _).alloc (by simp) _).alloc (by simp; omega) _
  have h0 : Has wa (w.heap.size) 26 (prA p) := by rw [← hwa]; exact (((Has.made _ _ _).beside _).beside _)
  have h1 : Has wa (w.heap.size + 1) 26 #[.int .i64 0, .int .i64 0, .int .u32 0, .int .u32 0, .int .u32 0, .int .u32 0, .int .i64 0, .int .u32 0, .int .u32 0, .int .u32 0, .int .u32 0, .int .u32 0, .int .u32 0, .bool false, .int .u32 0, .int .u32 0] := by rw [← hwa]; exact ((has_at (by simp)).beside _)
  have h2 : Has wa (w.heap.size + 1 + 1) 30 #[.int .i64 0, .int .i64 0, .int .i64 0, .int .u32 0, .int .u32 0, .slice none 0 0, .int .u64 0] := by rw [← hwa]; exact (has_at (by simp))
  have HWA := Lib.hid hwa; have HBWA := Lib.hid hbwa
  have hxo : (⟨1, 0, p.train, a, 0, [], 0⟩ : Pdu).ok := ⟨ha, show 0 < 4294967296 by decide, fun x hx => (by cases hx), show 0 < 18446744073709551616 by decide⟩
  have HM := Lib.hid (fun W => opd_may ⟨1, 0, p.train, a, 0, [], 0⟩ none 0 hxo (show 0 ≤ 2000 by decide) W)
  have HW := Lib.hid (fun W => osh_with p 1 ⟨a, 0, key0⟩ W)
  have c1 : wa.cell? ⟨w.heap.size, 1, none⟩ = some (.int .i64 p.train) := (h0).cell 1
  obtain ⟨wc, hwc⟩ : ∃ wc, wa.alloc (.cells (pdA ⟨1, 0, p.train, a, 0, [], 0⟩ none 0) 30) = wc := ⟨_, rfl⟩
  have hbc : Below wa.heap.size wa wc := by rw [← hwc]; exact (Below.refl _ _).alloc (Nat.le_refl _) _
  obtain ⟨gx, hgx⟩ : ∃ gx, wa.heap.size = gx := ⟨_, rfl⟩
  have hxc : Has wc gx 30 (pdA ⟨1, 0, p.train, a, 0, [], 0⟩ none 0) := by rw [← hwc, ← hgx]; exact Has.made _ _ _
  have hgl : w.heap.size + 1 + 1 < gx := by rw [← hgx]; exact h2.lt
  have HP := Lib.hid (h0.under hbc h0.lt)
  have HY1 := Lib.hid (h1.under hbc h1.lt)
  have HY2 := Lib.hid (h2.under hbc h2.lt)
  have HBC := Lib.hid (hbwa.trans (hbc.mono hbwa.size)); have HX := Lib.hid hxc; have HWC := Lib.hid hwc; have HGX := Lib.hid hgx
  clear hbc hgx hxc hwc
  have b0 : wc.cell? ⟨w.heap.size, 0, none⟩ = some (.int .i64 p.side) := (HP.out).cell 0
  have HC := Lib.hid (fun W (hW : Below wc.heap.size wc W) => And.intro (HP.out.under hW HP.out.lt) (And.intro (HY1.out.under hW HY1.out.lt) (And.intro (HY2.out.under hW HY2.out.lt) (HX.out.under hW HX.out.lt))))
  clear hwa hbwa h0 h1 h2 hxo hpo ha
  by_cases f0 : p.side = 0
  rotate_left
  · have hr : shAsk p a = (peer0, pdZero, 1) := by unfold shAsk; rw [if_neg (fun h => f0 h.1)]
    rw [hr]
    have s0 : (p.side != 0) = true := by simp [f0]
    clear hr f0 HM HW HC
    unfold prV at *
    go_enter Try.func10, Try.ntmps10
    go_upto_region 1 with fail
    rw [HWA.out]
    clear HWA
    go_upto_region 2 with fail
    rw [HGX.out]
    rw [show wa.alloc (.cells #[.int .i64 1, .int .i64 0, .int .i64 p.train, .int .u32 (a : Nat), .int .u32 0, .slice none 0 0, .int .u64 0] 30) = wc from HWC.out]
    clear HWC HGX
    clear c1
    obtain ⟨hx1, hx2, hx3⟩ := two_rows HY1.out HY2.out (by omega) (prA peer0) (pdA pdZero none 0)
    have HX0 := Lib.hid (HY1.out); have HX1 := Lib.hid hx1; have HX2 := Lib.hid hx2; have HX3 := Lib.hid hx3
    have HXB := Lib.hid (below_row (g := w.heap.size + 1 + 1) (below_row (g := w.heap.size + 1) HBC.out (by omega) (prA peer0)) (by omega) (pdA pdZero none 0))
    clear hx1 hx2 hx3
    go_wp2_with (first | (with_reducible refine wpList_store_rowTo (o := ⟨none, _, _, _, _, _⟩) rfl 26 _ _ rfl rfl (w.heap.size + 1) (prA peer0) rfl rfl 26 _ (HX0.out).raw (by kernel_rfl) (by kernel_rfl) (by kernel_rfl) ?_) | (with_reducible refine wpList_store_rowTo (o := ⟨none, _, _, _, _, _⟩) rfl 30 _ _ rfl rfl (w.heap.size + 1 + 1) (pdA pdZero none 0) rfl rfl 30 _ (HX1.out).raw (by kernel_rfl) (by kernel_rfl) (by kernel_rfl) ?_))
    refine bodyPost_ret (results_cct9 rfl _ _ (w.heap.size + 1) (w.heap.size + 1 + 1) 26 30 _ _ _ _ rfl HX2.out Try.underlying26 rfl (by kernel_rfl) rfl HX3.out Try.underlying30 rfl (by kernel_rfl)) rfl ?_
    exact ⟨rfl, HXB.out⟩
  have s0 : (p.side != 0) = false := by simp [f0]
  by_cases f1 : numbered p
  rotate_left
  · have hr : shAsk p a = (peer0, pdZero, 1) := by unfold shAsk; rw [if_neg (fun h => f1 h.2)]
    rw [hr]
    rw [decide_eq_false (fun h => f1 ((ask_may p a).1 h))] at HM
    clear hr f0 f1 HW
    unfold prV pdV at *
    go_enter Try.func10, Try.ntmps10
    go_upto_region 1 with fail
    rw [HWA.out]
    clear HWA
    go_upto_region 2 with fail
    rw [HGX.out]
    rw [show wa.alloc (.cells #[.int .i64 1, .int .i64 0, .int .i64 p.train, .int .u32 (a : Nat), .int .u32 0, .slice none 0 0, .int .u64 0] 30) = wc from HWC.out]
    clear HWC HGX
    clear c1
    go_wp2_with (refine wpList_load_rowW9 (o := ⟨some 16, _, _, _, _, _⟩) 30 _ rfl (by kernel_rfl) (gx) rfl 30 (pdA ⟨1, 0, p.train, a, 0, [], 0⟩ none 0) (0, 0) _ (HX.out).raw Try.underlying30 rfl (by kernel_rfl) ?_)
    refine (HM.out _).mono ?_
    rintro e w2 ⟨rfl, hb2⟩
    obtain ⟨_, hz1, hz2, _⟩ := HC.out w2 hb2
    have HZ1 := Lib.hid hz1; have HZ2 := Lib.hid hz2; have HBW := Lib.hid (HBC.out.trans (hb2.mono HBC.out.size))
    clear hz1 hz2 hb2 HC HX HY1 HY2 HP b0
    obtain ⟨hx1, hx2, hx3⟩ := two_rows HZ1.out HZ2.out (by omega) (prA peer0) (pdA pdZero none 0)
    have HX0 := Lib.hid (HZ1.out); have HX1 := Lib.hid hx1; have HX2 := Lib.hid hx2; have HX3 := Lib.hid hx3
    have HXB := Lib.hid (below_row (g := w.heap.size + 1 + 1) (below_row (g := w.heap.size + 1) HBW.out (by omega) (prA peer0)) (by omega) (pdA pdZero none 0))
    clear hx1 hx2 hx3
    go_wp2_with (first | (with_reducible refine wpList_store_rowTo (o := ⟨none, _, _, _, _, _⟩) rfl 26 _ _ rfl rfl (w.heap.size + 1) (prA peer0) rfl rfl 26 _ (HX0.out).raw (by kernel_rfl) (by kernel_rfl) (by kernel_rfl) ?_) | (with_reducible refine wpList_store_rowTo (o := ⟨none, _, _, _, _, _⟩) rfl 30 _ _ rfl rfl (w.heap.size + 1 + 1) (pdA pdZero none 0) rfl rfl 30 _ (HX1.out).raw (by kernel_rfl) (by kernel_rfl) (by kernel_rfl) ?_))
    refine bodyPost_ret (results_cct9 rfl _ _ (w.heap.size + 1) (w.heap.size + 1 + 1) 26 30 _ _ _ _ rfl HX2.out Try.underlying26 rfl (by kernel_rfl) rfl HX3.out Try.underlying30 rfl (by kernel_rfl)) rfl ?_
    exact ⟨rfl, HXB.out⟩
  have hr : shAsk p a = (shWith p 1 ⟨a, 0, key0⟩, ⟨1, 0, p.train, a, 0, [], 0⟩, 0) := by unfold shAsk; rw [if_pos ⟨f0, f1⟩]; rfl
  rw [hr]
  rw [decide_eq_true ((ask_may p a).2 f1)] at HM
  clear hr f0 f1
  unfold prV pdV cnV at *
  go_enter Try.func10, Try.ntmps10
  go_upto_region 1 with fail
  rw [HWA.out]
  clear HWA
  go_upto_region 2 with fail
  rw [HGX.out]
  rw [show wa.alloc (.cells #[.int .i64 1, .int .i64 0, .int .i64 p.train, .int .u32 (a : Nat), .int .u32 0, .slice none 0 0, .int .u64 0] 30) = wc from HWC.out]
  clear HWC HGX
  clear c1
  go_wp2_with (refine wpList_load_rowW9 (o := ⟨some 16, _, _, _, _, _⟩) 30 _ rfl (by kernel_rfl) (gx) rfl 30 (pdA ⟨1, 0, p.train, a, 0, [], 0⟩ none 0) (0, 0) _ (HX.out).raw Try.underlying30 rfl (by kernel_rfl) ?_)
  refine (HM.out _).mono ?_
  rintro e w2 ⟨rfl, hb2⟩
  obtain ⟨hp1, hz1, hz2, hx1⟩ := HC.out w2 hb2
  have HP2 := Lib.hid hp1; have HZ1 := Lib.hid hz1; have HZ2 := Lib.hid hz2; have HX2 := Lib.hid hx1; have HBW := Lib.hid (HBC.out.trans (hb2.mono HBC.out.size))
  clear hp1 hz1 hz2 hx1 hb2 HC HX HY1 HY2 HP b0 HBC HM HBWA
  go_upto_region 4 with fail
  go_cut [6] (fun sx wx => sx = .int .i64 0 ∧ Has wx (w.heap.size) 26 (prA p) ∧ Has wx (w.heap.size + 1) 26 (prA (shWith p 1 ⟨a, 0, key0⟩)) ∧ Has wx (w.heap.size + 1 + 1) 30 (pdA ⟨1, 0, p.train, a, 0, [], 0⟩ none 0) ∧ Has wx (gx) 30 (pdA ⟨1, 0, p.train, a, 0, [], 0⟩ none 0) ∧ Below w.heap.size w wx)
  case first =>
    refine wp_region_held_drew (S := (fun W_ => Has W_ (w.heap.size) 26 (prA p) ∧ (∃ o_ : Array Value, Has W_ (w.heap.size + 1) 26 o_ ∧ o_.size = 16) ∧ (∃ o_ : Array Value, Has W_ (w.heap.size + 1 + 1) 30 o_ ∧ o_.size = 7) ∧ Has W_ (gx) 30 (pdA ⟨1, 0, p.train, a, 0, [], 0⟩ none 0) ∧ Below w.heap.size w W_)) (by kernel_rfl) ?_ (fun hHeld => ?_)
    · exact ⟨HP2.out.draw, ⟨_, HZ1.out.draw, by kernel_rfl⟩, ⟨_, HZ2.out.draw, by kernel_rfl⟩, HX2.out.draw, below_dr HBW.out⟩
    refine wpAnyH_take (i := 0) (oi := ⟨some 22, _, _, _, _, _⟩) (v := .agg (prA p)) rfl (by kernel_rfl) (by kernel_rfl) (by kernel_rfl) (fun _ _ _ h => h) (yields_load_row9 rfl 26 _ rfl (w.heap.size) rfl 26 (prA p) _ (fun _ ⟨h_, _, _, _, _⟩ => h_) Try.underlying26 rfl (by kernel_rfl) (by rfl)) (by assumption) ?_
    simp only [Act.put, List.setIfInBounds_toArray, List.set_cons_zero, List.set_cons_succ]
    refine wpAnyH_take (i := 1) (oi := ⟨some 23, _, _, _, _, _⟩) (v := ?_) rfl (by kernel_rfl) (by kernel_rfl) (by kernel_rfl) (fun _ _ _ h => h) (Or.inl ⟨by rfl, ?_⟩) (by assumption) ?_
    rotate_left
    · intro w_ hSw; (try dsimp only at hSw); go_simp <;> with_reducible rfl
    simp only [Act.put, List.setIfInBounds_toArray, List.set_cons_zero, List.set_cons_succ]
    refine wpAnyH_take (i := 2) (oi := ⟨some 24, _, _, _, _, _⟩) (v := ?_) rfl (by kernel_rfl) (by kernel_rfl) (by kernel_rfl) (fun _ _ _ h => h) (Or.inl ⟨by rfl, ?_⟩) (by assumption) ?_
    rotate_left
    · intro w_ hSw; (try dsimp only at hSw); go_simp <;> with_reducible rfl
    simp only [Act.put, List.setIfInBounds_toArray, List.set_cons_zero, List.set_cons_succ]
    refine wpAnyH_take (i := 4) (oi := ⟨some 26, _, _, _, _, _⟩) (v := .agg (pdA ⟨1, 0, p.train, a, 0, [], 0⟩ none 0)) rfl (by kernel_rfl) (by kernel_rfl) (by kernel_rfl) (fun _ _ _ h => h) (yields_load_row9 rfl 30 _ rfl (gx) rfl 30 (pdA ⟨1, 0, p.train, a, 0, [], 0⟩ none 0) _ (fun _ ⟨_, _, _, h_, _⟩ => h_) Try.underlying30 rfl (by kernel_rfl) (by rfl)) (by assumption) ?_
    simp only [Act.put, List.setIfInBounds_toArray, List.set_cons_zero, List.set_cons_succ]
    refine wpAnyH_ready (rs := [3]) (by kernel_rfl) (by simp) ?_
    refine AllReadyH.cons (o := ⟨some 25, _, _, _, _, _⟩) rfl (fun K hK => ?_) ?_
    · go_simp
      obtain ⟨s0, s1, s2, s3, s4⟩ := hHeld
      refine (HW.out _).mono ?_
      rintro e vc ⟨rfl, hbc⟩
      go_wp2_with fail
      refine hK.out _ _ ?_ (fun hHeld => ?_)
      · exact ⟨s0.under hbc s0.lt, (let ⟨o_, h_, e_⟩ := s1; ⟨o_, h_.under hbc h_.lt, e_⟩), (let ⟨o_, h_, e_⟩ := s2; ⟨o_, h_.under hbc h_.lt, e_⟩), s3.under hbc s3.lt, s4.trans (hbc.mono s4.size)⟩
      clear hK K s0 s1 s2 s3 s4
      try simp only [Act.put, List.setIfInBounds_toArray, List.set_cons_zero, List.set_cons_succ]
      refine wpAnyH_ready (rs := [5]) (by kernel_rfl) (by simp) ?_
      refine AllReadyH.cons (o := ⟨none, _, _, _, _, _⟩) rfl (fun K hK => ?_) ?_
      · rw [if_pos (by rfl)]
        obtain ⟨s0, s1, s2, s3, s4⟩ := hHeld
        obtain ⟨o_, h_, e_⟩ := s1
        refine wp_store_row 26 _ _ rfl (w.heap.size + 1) (prA (shWith p 1 ⟨a, 0, key0⟩)) (by rfl) (by rfl) 26 o_ h_.raw (by kernel_rfl) e_ (by kernel_rfl) ?_
        refine hK.out _ _ ?_ (fun hHeld => ?_)
        · exact ⟨has_setRow_other7 s0 (by omega) _, ⟨_, has_setRow7 h_ (prA (shWith p 1 ⟨a, 0, key0⟩)), by kernel_rfl⟩, (let ⟨o_, h_, e_⟩ := s2; ⟨o_, has_setRow_other7 h_ (by omega) _, e_⟩), has_setRow_other7 s3 (by omega) _, below_row s4 (by omega) _⟩
        refine wpAnyH_more (T := (fun W_ => Has W_ (w.heap.size) 26 (prA p) ∧ Has W_ (w.heap.size + 1) 26 (prA (shWith p 1 ⟨a, 0, key0⟩)) ∧ (∃ o_ : Array Value, Has W_ (w.heap.size + 1 + 1) 30 o_ ∧ o_.size = 7) ∧ Has W_ (gx) 30 (pdA ⟨1, 0, p.train, a, 0, [], 0⟩ none 0) ∧ Below w.heap.size w W_)) (fun _ ⟨s0, s1, s2, s3, s4⟩ => ⟨s0, ⟨_, s1, by kernel_rfl⟩, s2, s3, s4⟩) ?_
        have hHeld2 : (fun W_ => Has W_ (w.heap.size) 26 (prA p) ∧ Has W_ (w.heap.size + 1) 26 (prA (shWith p 1 ⟨a, 0, key0⟩)) ∧ (∃ o_ : Array Value, Has W_ (w.heap.size + 1 + 1) 30 o_ ∧ o_.size = 7) ∧ Has W_ (gx) 30 (pdA ⟨1, 0, p.train, a, 0, [], 0⟩ none 0) ∧ Below w.heap.size w W_) _ := ⟨has_setRow_other7 s0 (by omega) _, has_setRow7 h_ (prA (shWith p 1 ⟨a, 0, key0⟩)), (let ⟨o_, h_, e_⟩ := s2; ⟨o_, has_setRow_other7 h_ (by omega) _, e_⟩), has_setRow_other7 s3 (by omega) _, below_row s4 (by omega) _⟩
        clear hHeld
        have hHeld := hHeld2
        clear hHeld2 hK K h_ e_ s0 s2 s3 s4
        try simp only [Act.put]
        refine wpAnyH_ready (rs := [6]) (by kernel_rfl) (by simp) ?_
        refine AllReadyH.cons (o := ⟨none, _, _, _, _, _⟩) rfl (fun K hK => ?_) ?_
        · rw [if_pos (by rfl)]
          obtain ⟨s0, s1, s2, s3, s4⟩ := hHeld
          obtain ⟨o_, h_, e_⟩ := s2
          refine wp_store_row 30 _ _ rfl (w.heap.size + 1 + 1) (pdA ⟨1, 0, p.train, a, 0, [], 0⟩ none 0) (by rfl) (by rfl) 30 o_ h_.raw (by kernel_rfl) e_ (by kernel_rfl) ?_
          refine hK.out _ _ ?_ (fun hHeld => ?_)
          · exact ⟨has_setRow_other7 s0 (by omega) _, has_setRow_other7 s1 (by omega) _, ⟨_, has_setRow7 h_ (pdA ⟨1, 0, p.train, a, 0, [], 0⟩ none 0), by kernel_rfl⟩, has_setRow_other7 s3 (by omega) _, below_row s4 (by omega) _⟩
          refine wpAnyH_more (T := (fun W_ => Has W_ (w.heap.size) 26 (prA p) ∧ Has W_ (w.heap.size + 1) 26 (prA (shWith p 1 ⟨a, 0, key0⟩)) ∧ Has W_ (w.heap.size + 1 + 1) 30 (pdA ⟨1, 0, p.train, a, 0, [], 0⟩ none 0) ∧ Has W_ (gx) 30 (pdA ⟨1, 0, p.train, a, 0, [], 0⟩ none 0) ∧ Below w.heap.size w W_)) (fun _ ⟨s0, s1, s2, s3, s4⟩ => ⟨s0, s1, ⟨_, s2, by kernel_rfl⟩, s3, s4⟩) ?_
          have hHeld2 : (fun W_ => Has W_ (w.heap.size) 26 (prA p) ∧ Has W_ (w.heap.size + 1) 26 (prA (shWith p 1 ⟨a, 0, key0⟩)) ∧ Has W_ (w.heap.size + 1 + 1) 30 (pdA ⟨1, 0, p.train, a, 0, [], 0⟩ none 0) ∧ Has W_ (gx) 30 (pdA ⟨1, 0, p.train, a, 0, [], 0⟩ none 0) ∧ Below w.heap.size w W_) _ := ⟨has_setRow_other7 s0 (by omega) _, has_setRow_other7 s1 (by omega) _, has_setRow7 h_ (pdA ⟨1, 0, p.train, a, 0, [], 0⟩ none 0), has_setRow_other7 s3 (by omega) _, below_row s4 (by omega) _⟩
          clear hHeld
          have hHeld := hHeld2
          clear hHeld2 hK K h_ e_ s0 s1 s3 s4
          try simp only [Act.put]
          refine wpAnyH_take (i := 7) (oi := ⟨some 6, _, _, _, _, _⟩) (v := ?_) rfl (by kernel_rfl) (by kernel_rfl) (by kernel_rfl) (fun _ _ _ h => h) (Or.inl ⟨by rfl, ?_⟩) (by assumption) ?_
          rotate_left
          · intro w_ hSw; (try dsimp only at hSw); go_simp <;> with_reducible rfl
          simp only [Act.put, List.setIfInBounds_toArray, List.set_cons_zero, List.set_cons_succ]
          refine wpAnyH_done (by kernel_rfl) ?_ _
          go_wp2_with fail
          go_meet
          exact ⟨rfl, hHeld⟩
        exact AllReadyH.nil
      exact AllReadyH.nil
    exact AllReadyH.nil
  case rest =>
    obtain ⟨rfl, _, hy1, hy2, _, hyb⟩ := hcut
    have HA1 := Lib.hid hy1; have HA2 := Lib.hid hy2; have HAB := Lib.hid hyb
    clear hy1 hy2 hyb
    go_wp2
    refine bodyPost_ret (results_cct9 rfl _ _ (w.heap.size + 1) (w.heap.size + 1 + 1) 26 30 _ _ _ _ rfl HA1.out Try.underlying26 rfl (by kernel_rfl) rfl HA2.out Try.underlying30 rfl (by kernel_rfl)) rfl ?_
    exact ⟨rfl, HAB.out⟩

set_option maxRecDepth 100000 in
set_option maxHeartbeats 4000000 in
theorem osh_answer (p : Peer) (q : Pdu) (A : Option Addr) (c n : Nat) (hpo : p.ok) (hk : q.ok) (hn : q.body.length ≤ 2000) (hnn : n < 4294967296) (w : World) (hs : Sl w 1 A q.body.length c (u8s q.body)) :
    Calls Try.prog 13 #[prV p, pdV q A c, .int .u32 (n : Nat)] w (ShPost3 (shAnswer p q n) w) := by
  have _ := hs
  obtain ⟨wa, hwa⟩ : ∃ wa, (((w.alloc (.cells (prA p) 26)).alloc (.cells (pdA q A c) 30)).alloc (.cells #[.int .i64 0, .int .i64 0, .int .u32 0, .int .u32 0, .int .u32 0, .int .u32 0, .int .i64 0, .int .u32 0, .int .u32 0, .int .u32 0, .int .u32 0, .int .u32 0, .int .u32 0, .bool false, .int .u32 0, .int .u32 0] 26)).alloc (.cells #[.int .i64 0, .int .i64 0, .int .i64 0, .int .u32 0, .int .u32 0, .slice none 0 0, .int .u64 0] 30) = wa := ⟨_, rfl⟩
  have hbwa : Below w.heap.size w wa := by rw [← hwa]; exact ((((Below.refl _ _).alloc (Nat.le_refl _) _).alloc (by simp) _).alloc (by simp; omega) _).alloc (by simp; omega) _
  have h0 : Has wa (w.heap.size) 26 (prA p) := by rw [← hwa]; exact ((((Has.made _ _ _).beside _).beside _).beside _)
  have h1 : Has wa (w.heap.size + 1) 30 (pdA q A c) := by rw [← hwa]; exact (((has_at (by simp)).beside _).beside _)
  have h2 : Has wa (w.heap.size + 1 + 1) 26 #[.int .i64 0, .int .i64 0, .int .u32 0, .int .u32 0, .int .u32 0, .int .u32 0, .int .i64 0, .int .u32 0, .int .u32 0, .int .u32 0, .int .u32 0, .int .u32 0, .int .u32 0, .bool false, .int .u32 0, .int .u32 0] := by rw [← hwa]; exact ((has_at (by simp)).beside _)
  have h3 : Has wa (w.heap.size + 1 + 1 + 1) 30 #[.int .i64 0, .int .i64 0, .int .i64 0, .int .u32 0, .int .u32 0, .slice none 0 0, .int .u64 0] := by rw [← hwa]; exact (has_at (by simp))
  have HWA := Lib.hid hwa; have HBWA := Lib.hid hbwa
  have hxo : (⟨2, 1, p.train, q.a, n, [], 0⟩ : Pdu).ok := ⟨hk.1, hnn, fun x hx => (by cases hx), show 0 < 18446744073709551616 by decide⟩
  have HF := Lib.hid (fun W => osh_matches p q A c 1 hk hn W)
  have HSEAL := Lib.hid (fun W => opd_seal p.base hpo.1 ⟨2, 1, p.train, q.a, n, [], 0⟩ none 0 hxo (show 0 ≤ 2000 by decide) W (sl_nil _ _))
  have HP := Lib.hid h0; have HQ := Lib.hid h1; have HY2 := Lib.hid h2; have HY3 := Lib.hid h3
  have HC := Lib.hid (fun W (hW : Below wa.heap.size wa W) => And.intro (h0.under hW h0.lt) (And.intro (h1.under hW h1.lt) (And.intro (h2.under hW h2.lt) (h3.under hW h3.lt))))
  have a0 : wa.cell? ⟨w.heap.size, 0, none⟩ = some (.int .i64 p.side) := (h0).cell 0
  clear hwa hbwa h0 h1 h2 h3 hxo hpo hk hn hnn hs
  by_cases f0 : p.side ≠ 0
  rotate_left
  · have hr : shAnswer p q n = (peer0, pdZero, 1) := by unfold shAnswer; rw [if_neg (fun h => f0 h.1)]
    rw [hr]
    have s0 : (p.side == 0) = true := by simpa using f0
    clear hr f0 HF HC HSEAL
    unfold prV pdV at *
    go_enter Try.func13, Try.ntmps13
    go_upto_region 1 with fail
    rw [HWA.out]
    clear HWA
    obtain ⟨hx1, hx2, hx3⟩ := two_rows HY2.out HY3.out (by omega) (prA peer0) (pdA pdZero none 0)
    have HX0 := Lib.hid (HY2.out); have HX1 := Lib.hid hx1; have HX2 := Lib.hid hx2; have HX3 := Lib.hid hx3
    have HXB := Lib.hid (below_row (g := w.heap.size + 1 + 1 + 1) (below_row (g := w.heap.size + 1 + 1) HBWA.out (by omega) (prA peer0)) (by omega) (pdA pdZero none 0))
    clear hx1 hx2 hx3
    go_wp2_with (first | (with_reducible refine wpList_store_rowTo (o := ⟨none, _, _, _, _, _⟩) rfl 26 _ _ rfl rfl (w.heap.size + 1 + 1) (prA peer0) rfl rfl 26 _ (HX0.out).raw (by kernel_rfl) (by kernel_rfl) (by kernel_rfl) ?_) | (with_reducible refine wpList_store_rowTo (o := ⟨none, _, _, _, _, _⟩) rfl 30 _ _ rfl rfl (w.heap.size + 1 + 1 + 1) (pdA pdZero none 0) rfl rfl 30 _ (HX1.out).raw (by kernel_rfl) (by kernel_rfl) (by kernel_rfl) ?_))
    refine bodyPost_ret (results_cct9 rfl _ _ (w.heap.size + 1 + 1) (w.heap.size + 1 + 1 + 1) 26 30 _ _ _ _ rfl HX2.out Try.underlying26 rfl (by kernel_rfl) rfl HX3.out Try.underlying30 rfl (by kernel_rfl)) rfl ?_
    exact ⟨rfl, HXB.out⟩
  have s0 : (p.side == 0) = false := by simpa using f0
  by_cases f1 : shFits p q 1
  rotate_left
  · have hr : shAnswer p q n = (peer0, pdZero, 1) := by unfold shAnswer; rw [if_neg (fun h => f1 h.2)]
    rw [hr]
    rw [decide_eq_false f1] at HF
    clear hr f0 f1 HSEAL HY2 HY3
    unfold prV pdV at *
    go_enter Try.func13, Try.ntmps13
    go_upto_region 1 with fail
    rw [HWA.out]
    clear HWA
    go_wp2_with (first | (refine wpList_load_rowW9 (o := ⟨some 14, _, _, _, _, _⟩) 26 _ rfl (by kernel_rfl) (w.heap.size) rfl 26 (prA p) (0, 0) _ (HP.out).raw Try.underlying26 rfl (by kernel_rfl) ?_) | (refine wpList_load_rowW9 (o := ⟨some 15, _, _, _, _, _⟩) 30 _ rfl (by kernel_rfl) (w.heap.size + 1) rfl 30 (pdA q A c) (0, 0) _ (HQ.out).raw Try.underlying30 rfl (by kernel_rfl) ?_))
    refine (HF.out _).mono ?_
    rintro e w2 ⟨rfl, hb2⟩
    obtain ⟨_, _, hz1, hz2⟩ := HC.out w2 hb2
    have HZ1 := Lib.hid hz1; have HZ2 := Lib.hid hz2; have HBW := Lib.hid (HBWA.out.trans (hb2.mono HBWA.out.size))
    clear hz1 hz2 hb2 HC HP HQ a0
    obtain ⟨hx1, hx2, hx3⟩ := two_rows HZ1.out HZ2.out (by omega) (prA peer0) (pdA pdZero none 0)
    have HX0 := Lib.hid (HZ1.out); have HX1 := Lib.hid hx1; have HX2 := Lib.hid hx2; have HX3 := Lib.hid hx3
    have HXB := Lib.hid (below_row (g := w.heap.size + 1 + 1 + 1) (below_row (g := w.heap.size + 1 + 1) HBW.out (by omega) (prA peer0)) (by omega) (pdA pdZero none 0))
    clear hx1 hx2 hx3
    go_wp2_with (first | (with_reducible refine wpList_store_rowTo (o := ⟨none, _, _, _, _, _⟩) rfl 26 _ _ rfl rfl (w.heap.size + 1 + 1) (prA peer0) rfl rfl 26 _ (HX0.out).raw (by kernel_rfl) (by kernel_rfl) (by kernel_rfl) ?_) | (with_reducible refine wpList_store_rowTo (o := ⟨none, _, _, _, _, _⟩) rfl 30 _ _ rfl rfl (w.heap.size + 1 + 1 + 1) (pdA pdZero none 0) rfl rfl 30 _ (HX1.out).raw (by kernel_rfl) (by kernel_rfl) (by kernel_rfl) ?_))
    refine bodyPost_ret (results_cct9 rfl _ _ (w.heap.size + 1 + 1) (w.heap.size + 1 + 1 + 1) 26 30 _ _ _ _ rfl HX2.out Try.underlying26 rfl (by kernel_rfl) rfl HX3.out Try.underlying30 rfl (by kernel_rfl)) rfl ?_
    exact ⟨rfl, HXB.out⟩
  have hr : shAnswer p q n = ({ p with half := true, a2 := q.a, b2 := n }, pdSeal p.base ⟨2, 1, p.train, q.a, n, [], 0⟩, 0) := by unfold shAnswer; rw [if_pos ⟨f0, f1⟩]
  rw [hr]
  rw [decide_eq_true f1] at HF
  clear hr f0 f1 HY2 HY3
  unfold prV pdV keyV keyA at *
  go_enter Try.func13, Try.ntmps13
  go_upto_region 1 with fail
  rw [HWA.out]
  clear HWA
  go_wp2_with (first | (refine wpList_load_rowW9 (o := ⟨some 14, _, _, _, _, _⟩) 26 _ rfl (by kernel_rfl) (w.heap.size) rfl 26 (prA p) (0, 0) _ (HP.out).raw Try.underlying26 rfl (by kernel_rfl) ?_) | (refine wpList_load_rowW9 (o := ⟨some 15, _, _, _, _, _⟩) 30 _ rfl (by kernel_rfl) (w.heap.size + 1) rfl 30 (pdA q A c) (0, 0) _ (HQ.out).raw Try.underlying30 rfl (by kernel_rfl) ?_))
  refine (HF.out _).mono ?_
  rintro e w1 ⟨rfl, hb1⟩
  obtain ⟨hp, hq, hz1, hz2⟩ := HC.out w1 hb1
  have hbw := HBWA.out.trans (hb1.mono HBWA.out.size)
  clear hb1 HC HP HQ a0 HF HBWA
  have c13 : w1.cell? ⟨w.heap.size, 13, none⟩ = some (.bool p.half) := (hp).cell 13
  have c14 : w1.cell? ⟨w.heap.size, 14, none⟩ = some (.int .u32 (p.a2 : Nat)) := (hp).cell 14
  have c15 : w1.cell? ⟨w.heap.size, 15, none⟩ = some (.int .u32 (p.b2 : Nat)) := (hp).cell 15
  have f13 : w1.frozen? ⟨w.heap.size, 13, none⟩ = false := (hp).thaw 13
  have f14 : w1.frozen? ⟨w.heap.size, 14, none⟩ = false := (hp).thaw 14
  have f15 : w1.frozen? ⟨w.heap.size, 15, none⟩ = false := (hp).thaw 15
  have d3 : w1.cell? ⟨w.heap.size + 1, 3, none⟩ = some (.int .u32 (q.a : Nat)) := (hq).cell 3
  obtain ⟨wd, hwd⟩ : ∃ wd, ((w1.setCell ⟨w.heap.size, 13, none⟩ (.bool true)).setCell ⟨w.heap.size, 14, none⟩ (.int .u32 (q.a : Nat))).setCell ⟨w.heap.size, 15, none⟩ (.int .u32 (n : Nat)) = wd := ⟨_, rfl⟩
  have hp1 : Has wd (w.heap.size) 26 (prA { p with half := true, a2 := q.a, b2 := n }) := by rw [← hwd]; exact (((hp.stored 13 _).stored 14 _).stored 15 _).is (by kernel_rfl)
  have hq1 : Has wd (w.heap.size + 1) 30 (pdA q A c) := by rw [← hwd]; exact (((hq.apart (p := ⟨w.heap.size, 13, none⟩) (by show _ ≠ w.heap.size; omega) _).apart (p := ⟨w.heap.size, 14, none⟩) (by show _ ≠ w.heap.size; omega) _).apart (p := ⟨w.heap.size, 15, none⟩) (by show _ ≠ w.heap.size; omega) _)
  have hy1 : Has wd (w.heap.size + 1 + 1) 26 #[.int .i64 0, .int .i64 0, .int .u32 0, .int .u32 0, .int .u32 0, .int .u32 0, .int .i64 0, .int .u32 0, .int .u32 0, .int .u32 0, .int .u32 0, .int .u32 0, .int .u32 0, .bool false, .int .u32 0, .int .u32 0] := by rw [← hwd]; exact (((hz1.apart (p := ⟨w.heap.size, 13, none⟩) (by show _ ≠ w.heap.size; omega) _).apart (p := ⟨w.heap.size, 14, none⟩) (by show _ ≠ w.heap.size; omega) _).apart (p := ⟨w.heap.size, 15, none⟩) (by show _ ≠ w.heap.size; omega) _)
  have hy2 : Has wd (w.heap.size + 1 + 1 + 1) 30 #[.int .i64 0, .int .i64 0, .int .i64 0, .int .u32 0, .int .u32 0, .slice none 0 0, .int .u64 0] := by rw [← hwd]; exact (((hz2.apart (p := ⟨w.heap.size, 13, none⟩) (by show _ ≠ w.heap.size; omega) _).apart (p := ⟨w.heap.size, 14, none⟩) (by show _ ≠ w.heap.size; omega) _).apart (p := ⟨w.heap.size, 15, none⟩) (by show _ ≠ w.heap.size; omega) _)
  have hb1 : Below w.heap.size w wd := by rw [← hwd]; exact (((hbw.setCell (p := ⟨w.heap.size, 13, none⟩) (by show w.heap.size ≤ w.heap.size; omega) _).setCell (p := ⟨w.heap.size, 14, none⟩) (by show w.heap.size ≤ w.heap.size; omega) _).setCell (p := ⟨w.heap.size, 15, none⟩) (by show w.heap.size ≤ w.heap.size; omega) _)
  have HWD := Lib.hid hwd
  clear hwd
  obtain ⟨we, hwe⟩ : ∃ we, wd.drew = we := ⟨_, rfl⟩
  have hp2 : Has we (w.heap.size) 26 (prA { p with half := true, a2 := q.a, b2 := n }) := by rw [← hwe]; exact hp1.draw
  have hq2 : Has we (w.heap.size + 1) 30 (pdA q A c) := by rw [← hwe]; exact hq1.draw
  have hv1 : Has we (w.heap.size + 1 + 1) 26 #[.int .i64 0, .int .i64 0, .int .u32 0, .int .u32 0, .int .u32 0, .int .u32 0, .int .i64 0, .int .u32 0, .int .u32 0, .int .u32 0, .int .u32 0, .int .u32 0, .int .u32 0, .bool false, .int .u32 0, .int .u32 0] := by rw [← hwe]; exact hy1.draw
  have hv2 : Has we (w.heap.size + 1 + 1 + 1) 30 #[.int .i64 0, .int .i64 0, .int .i64 0, .int .u32 0, .int .u32 0, .slice none 0 0, .int .u64 0] := by rw [← hwe]; exact hy2.draw
  have hb2 : Below w.heap.size w we := by rw [← hwe]; exact below_dr hb1
  have HWE := Lib.hid hwe
  clear hp hq hz1 hz2 hbw hp1 hq1 hy1 hy2 hb1 hwe
  have b1 : we.cell? ⟨w.heap.size, 1, none⟩ = some (.int .i64 p.train) := (hp2).cell 1
  have g3 : we.cell? ⟨w.heap.size + 1, 3, none⟩ = some (.int .u32 (q.a : Nat)) := (hq2).cell 3
  obtain ⟨wc, hwc⟩ : ∃ wc, we.alloc (.cells (pdA ⟨2, 1, p.train, q.a, n, [], 0⟩ none 0) 30) = wc := ⟨_, rfl⟩
  have hbc : Below we.heap.size we wc := by rw [← hwc]; exact (Below.refl _ _).alloc (Nat.le_refl _) _
  obtain ⟨gx, hgx⟩ : ∃ gx, we.heap.size = gx := ⟨_, rfl⟩
  have hxc : Has wc gx 30 (pdA ⟨2, 1, p.train, q.a, n, [], 0⟩ none 0) := by rw [← hwc, ← hgx]; exact Has.made _ _ _
  have hgl : w.heap.size + 1 + 1 + 1 < gx := by rw [← hgx]; exact hv2.lt
  have HP := Lib.hid (hp2.under hbc hp2.lt)
  have HY1 := Lib.hid (hv1.under hbc hv1.lt)
  have HY2 := Lib.hid (hv2.under hbc hv2.lt)
  have HBC := Lib.hid (hb2.trans (hbc.mono hb2.size)); have HX := Lib.hid hxc; have HWC := Lib.hid hwc; have HGX := Lib.hid hgx
  clear hbc hgx hxc hwc
  clear hp2 hq2 hv1 hv2 hb2
  go_wp2_with fail
  go_region
  rw [HWD.out, HWE.out]
  clear HWD HWE c13 c14 c15 f13 f14 f15 d3
  go_upto_region 5 with fail
  rw [HGX.out]
  rw [show we.alloc (.cells #[.int .i64 2, .int .i64 1, .int .i64 p.train, .int .u32 (q.a : Nat), .int .u32 (n : Nat), .slice none 0 0, .int .u64 0] 30) = wc from HWC.out]
  clear HWC HGX
  clear b1 g3
  go_cut [8] (fun sx wx => sx = .int .i64 0 ∧ Has wx (w.heap.size) 26 (prA { p with half := true, a2 := q.a, b2 := n }) ∧ Has wx (w.heap.size + 1 + 1) 26 (prA { p with half := true, a2 := q.a, b2 := n }) ∧ Has wx (w.heap.size + 1 + 1 + 1) 30 (pdA (pdSeal p.base ⟨2, 1, p.train, q.a, n, [], 0⟩) none 0) ∧ Has wx (gx) 30 (pdA ⟨2, 1, p.train, q.a, n, [], 0⟩ none 0) ∧ Below w.heap.size w wx)
  case first =>
    refine wp_region_held_drew (S := (fun W_ => Has W_ (w.heap.size) 26 (prA { p with half := true, a2 := q.a, b2 := n }) ∧ (∃ o_ : Array Value, Has W_ (w.heap.size + 1 + 1) 26 o_ ∧ o_.size = 16) ∧ (∃ o_ : Array Value, Has W_ (w.heap.size + 1 + 1 + 1) 30 o_ ∧ o_.size = 7) ∧ Has W_ (gx) 30 (pdA ⟨2, 1, p.train, q.a, n, [], 0⟩ none 0) ∧ Below w.heap.size w W_)) (by kernel_rfl) ?_ (fun hHeld => ?_)
    · exact ⟨HP.out.draw, ⟨_, HY1.out.draw, by kernel_rfl⟩, ⟨_, HY2.out.draw, by kernel_rfl⟩, HX.out.draw, below_dr HBC.out⟩
    refine wpAnyH_take (i := 0) (oi := ⟨some 33, _, _, _, _, _⟩) (v := .agg (prA { p with half := true, a2 := q.a, b2 := n })) rfl (by kernel_rfl) (by kernel_rfl) (by kernel_rfl) (fun _ _ _ h => h) (yields_load_row9 rfl 26 _ rfl (w.heap.size) rfl 26 (prA { p with half := true, a2 := q.a, b2 := n }) _ (fun _ ⟨h_, _, _, _, _⟩ => h_) Try.underlying26 rfl (by kernel_rfl) (by rfl)) (by assumption) ?_
    simp only [Act.put, List.setIfInBounds_toArray, List.set_cons_zero, List.set_cons_succ]
    refine wpAnyH_take (i := 1) (oi := ⟨some 34, _, _, _, _, _⟩) (v := ?_) rfl (by kernel_rfl) (by kernel_rfl) (by kernel_rfl) (fun _ _ _ h => h) (Or.inl ⟨by rfl, ?_⟩) (by assumption) ?_
    rotate_left
    · intro w_ hSw; (try dsimp only at hSw); go_simp <;> with_reducible rfl
    simp only [Act.put, List.setIfInBounds_toArray, List.set_cons_zero, List.set_cons_succ]
    refine wpAnyH_take (i := 2) (oi := ⟨some 35, _, _, _, _, _⟩) (v := ?_) rfl (by kernel_rfl) (by kernel_rfl) (by kernel_rfl) (fun _ _ _ h => h) (Or.inl ⟨by rfl, ?_⟩) (by assumption) ?_
    rotate_left
    · intro w_ hSw; (try dsimp only at hSw); have hx2 := hSw.1.cell 2; simp only [prA] at hx2; have hx3 := hSw.1.cell 3; simp only [prA] at hx3; have hx4 := hSw.1.cell 4; simp only [prA] at hx4; have hx5 := hSw.1.cell 5; simp only [prA] at hx5; go_simp <;> with_reducible rfl
    simp only [Act.put, List.setIfInBounds_toArray, List.set_cons_zero, List.set_cons_succ]
    refine wpAnyH_take (i := 3) (oi := ⟨some 36, _, _, _, _, _⟩) (v := .agg (pdA ⟨2, 1, p.train, q.a, n, [], 0⟩ none 0)) rfl (by kernel_rfl) (by kernel_rfl) (by kernel_rfl) (fun _ _ _ h => h) (yields_load_row9 rfl 30 _ rfl (gx) rfl 30 (pdA ⟨2, 1, p.train, q.a, n, [], 0⟩ none 0) _ (fun _ ⟨_, _, _, h_, _⟩ => h_) Try.underlying30 rfl (by kernel_rfl) (by rfl)) (by assumption) ?_
    simp only [Act.put, List.setIfInBounds_toArray, List.set_cons_zero, List.set_cons_succ]
    refine wpAnyH_ready (rs := [4]) (by kernel_rfl) (by simp) ?_
    refine AllReadyH.cons (o := ⟨some 37, _, _, _, _, _⟩) rfl (fun K hK => ?_) ?_
    · go_simp
      obtain ⟨s0, s1, s2, s3, s4⟩ := hHeld
      refine (HSEAL.out _).mono ?_
      rintro e vs ⟨A2, c2, rfl, _, _, _, hbs, hnn⟩
      obtain ⟨rfl, rfl⟩ := hnn.out rfl
      go_wp2_with fail
      refine hK.out _ _ ?_ (fun hHeld => ?_)
      · exact ⟨s0.under hbs.out s0.lt, (let ⟨o_, h_, e_⟩ := s1; ⟨o_, h_.under hbs.out h_.lt, e_⟩), (let ⟨o_, h_, e_⟩ := s2; ⟨o_, h_.under hbs.out h_.lt, e_⟩), s3.under hbs.out s3.lt, s4.trans (hbs.out.mono s4.size)⟩
      clear hK K s0 s1 s2 s3 s4
      try simp only [Act.put, List.setIfInBounds_toArray, List.set_cons_zero, List.set_cons_succ]
      refine wpAnyH_ready (rs := [5]) (by kernel_rfl) (by simp) ?_
      refine AllReadyH.cons (o := ⟨none, _, _, _, _, _⟩) rfl (fun K hK => ?_) ?_
      · rw [if_pos (by rfl)]
        obtain ⟨s0, s1, s2, s3, s4⟩ := hHeld
        obtain ⟨o_, h_, e_⟩ := s1
        refine wp_store_row 26 _ _ rfl (w.heap.size + 1 + 1) (prA { p with half := true, a2 := q.a, b2 := n }) (by rfl) (by rfl) 26 o_ h_.raw (by kernel_rfl) e_ (by kernel_rfl) ?_
        refine hK.out _ _ ?_ (fun hHeld => ?_)
        · exact ⟨has_setRow_other7 s0 (by omega) _, ⟨_, has_setRow7 h_ (prA { p with half := true, a2 := q.a, b2 := n }), by kernel_rfl⟩, (let ⟨o_, h_, e_⟩ := s2; ⟨o_, has_setRow_other7 h_ (by omega) _, e_⟩), has_setRow_other7 s3 (by omega) _, below_row s4 (by omega) _⟩
        refine wpAnyH_more (T := (fun W_ => Has W_ (w.heap.size) 26 (prA { p with half := true, a2 := q.a, b2 := n }) ∧ Has W_ (w.heap.size + 1 + 1) 26 (prA { p with half := true, a2 := q.a, b2 := n }) ∧ (∃ o_ : Array Value, Has W_ (w.heap.size + 1 + 1 + 1) 30 o_ ∧ o_.size = 7) ∧ Has W_ (gx) 30 (pdA ⟨2, 1, p.train, q.a, n, [], 0⟩ none 0) ∧ Below w.heap.size w W_)) (fun _ ⟨s0, s1, s2, s3, s4⟩ => ⟨s0, ⟨_, s1, by kernel_rfl⟩, s2, s3, s4⟩) ?_
        have hHeld2 : (fun W_ => Has W_ (w.heap.size) 26 (prA { p with half := true, a2 := q.a, b2 := n }) ∧ Has W_ (w.heap.size + 1 + 1) 26 (prA { p with half := true, a2 := q.a, b2 := n }) ∧ (∃ o_ : Array Value, Has W_ (w.heap.size + 1 + 1 + 1) 30 o_ ∧ o_.size = 7) ∧ Has W_ (gx) 30 (pdA ⟨2, 1, p.train, q.a, n, [], 0⟩ none 0) ∧ Below w.heap.size w W_) _ := ⟨has_setRow_other7 s0 (by omega) _, has_setRow7 h_ (prA { p with half := true, a2 := q.a, b2 := n }), (let ⟨o_, h_, e_⟩ := s2; ⟨o_, has_setRow_other7 h_ (by omega) _, e_⟩), has_setRow_other7 s3 (by omega) _, below_row s4 (by omega) _⟩
        clear hHeld
        have hHeld := hHeld2
        clear hHeld2 hK K h_ e_ s0 s2 s3 s4
        try simp only [Act.put]
        refine wpAnyH_ready (rs := [6]) (by kernel_rfl) (by simp) ?_
        refine AllReadyH.cons (o := ⟨none, _, _, _, _, _⟩) rfl (fun K hK => ?_) ?_
        · rw [if_pos (by rfl)]
          obtain ⟨s0, s1, s2, s3, s4⟩ := hHeld
          obtain ⟨o_, h_, e_⟩ := s2
          refine wp_store_row 30 _ _ rfl (w.heap.size + 1 + 1 + 1) (pdA (pdSeal p.base ⟨2, 1, p.train, q.a, n, [], 0⟩) none 0) (by rfl) (by rfl) 30 o_ h_.raw (by kernel_rfl) e_ (by kernel_rfl) ?_
          refine hK.out _ _ ?_ (fun hHeld => ?_)
          · exact ⟨has_setRow_other7 s0 (by omega) _, has_setRow_other7 s1 (by omega) _, ⟨_, has_setRow7 h_ (pdA (pdSeal p.base ⟨2, 1, p.train, q.a, n, [], 0⟩) none 0), by kernel_rfl⟩, has_setRow_other7 s3 (by omega) _, below_row s4 (by omega) _⟩
          refine wpAnyH_more (T := (fun W_ => Has W_ (w.heap.size) 26 (prA { p with half := true, a2 := q.a, b2 := n }) ∧ Has W_ (w.heap.size + 1 + 1) 26 (prA { p with half := true, a2 := q.a, b2 := n }) ∧ Has W_ (w.heap.size + 1 + 1 + 1) 30 (pdA (pdSeal p.base ⟨2, 1, p.train, q.a, n, [], 0⟩) none 0) ∧ Has W_ (gx) 30 (pdA ⟨2, 1, p.train, q.a, n, [], 0⟩ none 0) ∧ Below w.heap.size w W_)) (fun _ ⟨s0, s1, s2, s3, s4⟩ => ⟨s0, s1, ⟨_, s2, by kernel_rfl⟩, s3, s4⟩) ?_
          have hHeld2 : (fun W_ => Has W_ (w.heap.size) 26 (prA { p with half := true, a2 := q.a, b2 := n }) ∧ Has W_ (w.heap.size + 1 + 1) 26 (prA { p with half := true, a2 := q.a, b2 := n }) ∧ Has W_ (w.heap.size + 1 + 1 + 1) 30 (pdA (pdSeal p.base ⟨2, 1, p.train, q.a, n, [], 0⟩) none 0) ∧ Has W_ (gx) 30 (pdA ⟨2, 1, p.train, q.a, n, [], 0⟩ none 0) ∧ Below w.heap.size w W_) _ := ⟨has_setRow_other7 s0 (by omega) _, has_setRow_other7 s1 (by omega) _, has_setRow7 h_ (pdA (pdSeal p.base ⟨2, 1, p.train, q.a, n, [], 0⟩) none 0), has_setRow_other7 s3 (by omega) _, below_row s4 (by omega) _⟩
          clear hHeld
          have hHeld := hHeld2
          clear hHeld2 hK K h_ e_ s0 s1 s3 s4
          try simp only [Act.put]
          refine wpAnyH_take (i := 7) (oi := ⟨some 8, _, _, _, _, _⟩) (v := ?_) rfl (by kernel_rfl) (by kernel_rfl) (by kernel_rfl) (fun _ _ _ h => h) (Or.inl ⟨by rfl, ?_⟩) (by assumption) ?_
          rotate_left
          · intro w_ hSw; (try dsimp only at hSw); go_simp <;> with_reducible rfl
          simp only [Act.put, List.setIfInBounds_toArray, List.set_cons_zero, List.set_cons_succ]
          refine wpAnyH_done (by kernel_rfl) ?_ _
          go_wp2_with fail
          go_meet
          exact ⟨rfl, hHeld⟩
        exact AllReadyH.nil
      exact AllReadyH.nil
    exact AllReadyH.nil
  case rest =>
    obtain ⟨rfl, _, hy1, hy2, _, hyb⟩ := hcut
    have HA1 := Lib.hid hy1; have HA2 := Lib.hid hy2; have HAB := Lib.hid hyb
    clear hy1 hy2 hyb
    go_wp2
    refine bodyPost_ret (results_cct9 rfl _ _ (w.heap.size + 1 + 1) (w.heap.size + 1 + 1 + 1) 26 30 _ _ _ _ rfl HA1.out Try.underlying26 rfl (by kernel_rfl) rfl HA2.out Try.underlying30 rfl (by kernel_rfl)) rfl ?_
    exact ⟨rfl, HAB.out⟩

theorem confE (p : Peer) (q : Pdu) : shConfirm p q = if shConfE p q = 0 then (shWith p 2 ⟨p.a, q.b, deriveF p.base p.a q.b⟩, pdSeal p.base ⟨3, 0, p.train, p.a, q.b, [], 0⟩, 0) else (peer0, pdZero, shConfE p q) := by
  unfold shConfirm shConfE
  by_cases h1 : p.side = 0 ∧ shFits p q 2
  · by_cases h2 : p.state = 1
    · by_cases h3 : q.a = p.a
      · by_cases h4 : pdRight p.base q
        · simp only [if_pos h1, if_pos h2, if_pos h3, if_pos h4]; rfl
        · simp only [if_pos h1, if_pos h2, if_pos h3, if_neg h4]; rfl
      · simp only [if_pos h1, if_pos h2, if_neg h3]; rfl
    · simp only [if_pos h1, if_neg h2]; rfl
  · simp only [if_neg h1]; rfl
set_option maxRecDepth 100000 in
set_option maxHeartbeats 4000000 in
theorem osh_confirm (p : Peer) (q : Pdu) (A : Option Addr) (c : Nat) (hpo : p.ok) (hk : q.ok) (hn : q.body.length ≤ 2000) (w : World) (hs : Sl w 1 A q.body.length c (u8s q.body)) :
    Calls Try.prog 15 #[prV p, pdV q A c] w (ShPost3 (shConfirm p q) w) := by
  rw [confE]
  obtain ⟨wa, hwa⟩ : ∃ wa, (((w.alloc (.cells (prA p) 26)).alloc (.cells (pdA q A c) 30)).alloc (.cells #[.int .i64 0, .int .i64 0, .int .u32 0, .int .u32 0, .int .u32 0, .int .u32 0, .int .i64 0, .int .u32 0, .int .u32 0, .int .u32 0, .int .u32 0, .int .u32 0, .int .u32 0, .bool false, .int .u32 0, .int .u32 0] 26)).alloc (.cells #[.int .i64 0, .int .i64 0, .int .i64 0, .int .u32 0, .int .u32 0, .slice none 0 0, .int .u64 0] 30) = wa := ⟨_, rfl⟩
  have hbwa : Below w.heap.size w wa := by rw [← hwa]; exact ((((Below.refl _ _).alloc (Nat.le_refl _) _).alloc (by simp) _).alloc (by simp; omega) _).alloc (by simp; omega) _
  have h0 : Has wa (w.heap.size) 26 (prA p) := by rw [← hwa]; exact ((((Has.made _ _ _).beside _).beside _).beside _)
  have h1 : Has wa (w.heap.size + 1) 30 (pdA q A c) := by rw [← hwa]; exact (((has_at (by simp)).beside _).beside _)
  have h2 : Has wa (w.heap.size + 1 + 1) 26 #[.int .i64 0, .int .i64 0, .int .u32 0, .int .u32 0, .int .u32 0, .int .u32 0, .int .i64 0, .int .u32 0, .int .u32 0, .int .u32 0, .int .u32 0, .int .u32 0, .int .u32 0, .bool false, .int .u32 0, .int .u32 0] := by rw [← hwa]; exact ((has_at (by simp)).beside _)
  have h3 : Has wa (w.heap.size + 1 + 1 + 1) 30 #[.int .i64 0, .int .i64 0, .int .i64 0, .int .u32 0, .int .u32 0, .slice none 0 0, .int .u64 0] := by rw [← hwa]; exact (has_at (by simp))
  have HWA := Lib.hid hwa; have HBWA := Lib.hid hbwa
  have hxo : (⟨3, 0, p.train, p.a, q.b, [], 0⟩ : Pdu).ok := ⟨hpo.2.1, hk.2.1, fun x hx => (by cases hx), show 0 < 18446744073709551616 by decide⟩
  have HF := Lib.hid (osh_confirmable p q A c hpo hk hn wa (hs.under hbwa))
  have HSEAL := Lib.hid (fun W => opd_seal p.base hpo.1 ⟨3, 0, p.train, p.a, q.b, [], 0⟩ none 0 hxo (show 0 ≤ 2000 by decide) W (sl_nil _ _))
  have HD := Lib.hid (fun W => osh_made p.base hpo.1 p.a q.b hpo.2.1 hk.2.1 W)
  generalize deriveF p.base p.a q.b = dk at *
  have HW := Lib.hid (fun W => osh_with p 2 ⟨p.a, q.b, dk⟩ W)
  have HP := Lib.hid h0; have HQ := Lib.hid h1
  have HC := Lib.hid (fun W (hW : Below wa.heap.size wa W) => And.intro (h0.under hW h0.lt) (And.intro (h1.under hW h1.lt) (And.intro (h2.under hW h2.lt) (h3.under hW h3.lt))))
  clear hwa hbwa h0 h1 h2 h3 hxo hpo hk hn hs
  generalize shConfE p q = E at *
  by_cases f1 : E = 0
  rotate_left
  · rw [if_neg f1]
    have s0 : (E != 0) = true := by simp [f1]
    clear f1 HSEAL HD HW
    unfold prV pdV at *
    go_enter Try.func15, Try.ntmps15
    go_upto_region 1 with fail
    rw [HWA.out]
    clear HWA
    go_wp2_with (first | (with_reducible refine wpList_load_row (o := ⟨some 9, _, _, _, _, _⟩) rfl 26 _ rfl (w.heap.size) rfl 26 (prA p) (0, 0) _ (HP.out).raw Try.underlying26 rfl (by kernel_rfl) ?_) | (with_reducible refine wpList_load_row (o := ⟨some 10, _, _, _, _, _⟩) rfl 30 _ rfl (w.heap.size + 1) rfl 30 (pdA q A c) (0, 0) _ (HQ.out).raw Try.underlying30 rfl (by kernel_rfl) ?_))
    refine HF.out.mono ?_
    rintro e w2 ⟨rfl, hb2⟩
    obtain ⟨_, _, hz1, hz2⟩ := HC.out w2 hb2
    have HZ1 := Lib.hid hz1; have HZ2 := Lib.hid hz2; have HBW := Lib.hid (HBWA.out.trans (hb2.mono HBWA.out.size))
    clear hz1 hz2 hb2 HC HP HQ
    obtain ⟨hx1, hx2, hx3⟩ := two_rows HZ1.out HZ2.out (by omega) (prA peer0) (pdA pdZero none 0)
    have HX0 := Lib.hid (HZ1.out); have HX1 := Lib.hid hx1; have HX2 := Lib.hid hx2; have HX3 := Lib.hid hx3
    have HXB := Lib.hid (below_row (g := w.heap.size + 1 + 1 + 1) (below_row (g := w.heap.size + 1 + 1) HBW.out (by omega) (prA peer0)) (by omega) (pdA pdZero none 0))
    clear hx1 hx2 hx3
    go_wp2_with (first | (with_reducible refine wpList_store_rowTo (o := ⟨none, _, _, _, _, _⟩) rfl 26 _ _ rfl rfl (w.heap.size + 1 + 1) (prA peer0) rfl rfl 26 _ (HX0.out).raw (by kernel_rfl) (by kernel_rfl) (by kernel_rfl) ?_) | (with_reducible refine wpList_store_rowTo (o := ⟨none, _, _, _, _, _⟩) rfl 30 _ _ rfl rfl (w.heap.size + 1 + 1 + 1) (pdA pdZero none 0) rfl rfl 30 _ (HX1.out).raw (by kernel_rfl) (by kernel_rfl) (by kernel_rfl) ?_))
    refine bodyPost_ret (results_cct9 rfl _ _ (w.heap.size + 1 + 1) (w.heap.size + 1 + 1 + 1) 26 30 _ _ _ _ rfl HX2.out Try.underlying26 rfl (by kernel_rfl) rfl HX3.out Try.underlying30 rfl (by kernel_rfl)) rfl ?_
    exact ⟨rfl, HXB.out⟩
  subst f1
  rw [if_pos rfl]
  unfold prV pdV cnV keyV keyA at *
  go_enter Try.func15, Try.ntmps15
  go_upto_region 1 with fail
  rw [HWA.out]
  clear HWA
  go_wp2_with (first | (with_reducible refine wpList_load_row (o := ⟨some 9, _, _, _, _, _⟩) rfl 26 _ rfl (w.heap.size) rfl 26 (prA p) (0, 0) _ (HP.out).raw Try.underlying26 rfl (by kernel_rfl) ?_) | (with_reducible refine wpList_load_row (o := ⟨some 10, _, _, _, _, _⟩) rfl 30 _ rfl (w.heap.size + 1) rfl 30 (pdA q A c) (0, 0) _ (HQ.out).raw Try.underlying30 rfl (by kernel_rfl) ?_))
  refine HF.out.mono ?_
  rintro e w1 ⟨rfl, hb1⟩
  obtain ⟨hp, hq, hz1, hz2⟩ := HC.out w1 hb1
  have hbw := HBWA.out.trans (hb1.mono HBWA.out.size)
  clear hb1 HC HP HQ HF HBWA
  have c1 : w1.cell? ⟨w.heap.size, 1, none⟩ = some (.int .i64 p.train) := (hp).cell 1
  have c7 : w1.cell? ⟨w.heap.size, 7, none⟩ = some (.int .u32 (p.a : Nat)) := (hp).cell 7
  have d4 : w1.cell? ⟨w.heap.size + 1, 4, none⟩ = some (.int .u32 (q.b : Nat)) := (hq).cell 4
  obtain ⟨wc, hwc⟩ : ∃ wc, w1.alloc (.cells (pdA ⟨3, 0, p.train, p.a, q.b, [], 0⟩ none 0) 30) = wc := ⟨_, rfl⟩
  have hbc : Below w1.heap.size w1 wc := by rw [← hwc]; exact (Below.refl _ _).alloc (Nat.le_refl _) _
  obtain ⟨gx, hgx⟩ : ∃ gx, w1.heap.size = gx := ⟨_, rfl⟩
  have hxc : Has wc gx 30 (pdA ⟨3, 0, p.train, p.a, q.b, [], 0⟩ none 0) := by rw [← hwc, ← hgx]; exact Has.made _ _ _
  have hgl : w.heap.size + 1 + 1 + 1 < gx := by rw [← hgx]; exact hz2.lt
  have HP := Lib.hid (hp.under hbc hp.lt)
  have HQ := Lib.hid (hq.under hbc hq.lt)
  have HY1 := Lib.hid (hz1.under hbc hz1.lt)
  have HY2 := Lib.hid (hz2.under hbc hz2.lt)
  have HBC := Lib.hid (hbw.trans (hbc.mono hbw.size)); have HX := Lib.hid hxc; have HWC := Lib.hid hwc; have HGX := Lib.hid hgx
  clear hbc hgx hxc hwc
  clear hp hq hz1 hz2 hbw
  go_upto_region 5 with fail
  rw [HGX.out]
  rw [show w1.alloc (.cells #[.int .i64 3, .int .i64 0, .int .i64 p.train, .int .u32 (p.a : Nat), .int .u32 (q.b : Nat), .slice none 0 0, .int .u64 0] 30) = wc from HWC.out]
  clear HWC HGX
  clear c1 c7 d4
  go_cut [6] (fun sx wx => sx = .int .i64 0 ∧ Has wx (w.heap.size) 26 (prA p) ∧ Has wx (w.heap.size + 1 + 1) 26 (prA (shWith p 2 ⟨p.a, q.b, dk⟩)) ∧ Has wx (w.heap.size + 1 + 1 + 1) 30 (pdA (pdSeal p.base ⟨3, 0, p.train, p.a, q.b, [], 0⟩) none 0) ∧ Has wx (gx) 30 (pdA ⟨3, 0, p.train, p.a, q.b, [], 0⟩ none 0) ∧ Has wx (w.heap.size + 1) 30 (pdA q A c) ∧ Below w.heap.size w wx)
  case first =>
    refine wp_region_held_drew (S := (fun W_ => Has W_ (w.heap.size) 26 (prA p) ∧ (∃ o_ : Array Value, Has W_ (w.heap.size + 1 + 1) 26 o_ ∧ o_.size = 16) ∧ (∃ o_ : Array Value, Has W_ (w.heap.size + 1 + 1 + 1) 30 o_ ∧ o_.size = 7) ∧ Has W_ (gx) 30 (pdA ⟨3, 0, p.train, p.a, q.b, [], 0⟩ none 0) ∧ Has W_ (w.heap.size + 1) 30 (pdA q A c) ∧ Below w.heap.size w W_)) (by kernel_rfl) ?_ (fun hHeld => ?_)
    · exact ⟨HP.out.draw, ⟨_, HY1.out.draw, by kernel_rfl⟩, ⟨_, HY2.out.draw, by kernel_rfl⟩, HX.out.draw, HQ.out.draw, below_dr HBC.out⟩
    refine wpAnyH_take (i := 0) (oi := ⟨some 24, _, _, _, _, _⟩) (v := .agg (prA p)) rfl (by kernel_rfl) (by kernel_rfl) (by kernel_rfl) (fun _ _ _ h => h) (yields_load_row9 rfl 26 _ rfl (w.heap.size) rfl 26 (prA p) _ (fun _ ⟨h_, _, _, _, _, _⟩ => h_) Try.underlying26 rfl (by kernel_rfl) (by rfl)) (by assumption) ?_
    simp only [Act.put, List.setIfInBounds_toArray, List.set_cons_zero, List.set_cons_succ]
    refine wpAnyH_take (i := 1) (oi := ⟨some 25, _, _, _, _, _⟩) (v := ?_) rfl (by kernel_rfl) (by kernel_rfl) (by kernel_rfl) (fun _ _ _ h => h) (Or.inl ⟨by rfl, ?_⟩) (by assumption) ?_
    rotate_left
    · intro w_ hSw; (try dsimp only at hSw); go_simp <;> with_reducible rfl
    simp only [Act.put, List.setIfInBounds_toArray, List.set_cons_zero, List.set_cons_succ]
    refine wpAnyH_take (i := 2) (oi := ⟨some 26, _, _, _, _, _⟩) (v := ?_) rfl (by kernel_rfl) (by kernel_rfl) (by kernel_rfl) (fun _ _ _ h => h) (Or.inl ⟨by rfl, ?_⟩) (by assumption) ?_
    rotate_left
    · intro w_ hSw; (try dsimp only at hSw); have hx2 := hSw.1.cell 2; simp only [prA] at hx2; have hx3 := hSw.1.cell 3; simp only [prA] at hx3; have hx4 := hSw.1.cell 4; simp only [prA] at hx4; have hx5 := hSw.1.cell 5; simp only [prA] at hx5; go_simp <;> with_reducible rfl
    simp only [Act.put, List.setIfInBounds_toArray, List.set_cons_zero, List.set_cons_succ]
    refine wpAnyH_take (i := 3) (oi := ⟨some 27, _, _, _, _, _⟩) (v := ?_) rfl (by kernel_rfl) (by kernel_rfl) (by kernel_rfl) (fun _ _ _ h => h) (Or.inl ⟨by rfl, ?_⟩) (by assumption) ?_
    rotate_left
    · intro w_ hSw; (try dsimp only at hSw); go_simp <;> with_reducible rfl
    simp only [Act.put, List.setIfInBounds_toArray, List.set_cons_zero, List.set_cons_succ]
    refine wpAnyH_take (i := 4) (oi := ⟨some 28, _, _, _, _, _⟩) (v := ?_) rfl (by kernel_rfl) (by kernel_rfl) (by kernel_rfl) (fun _ _ _ h => h) (Or.inl ⟨by rfl, ?_⟩) (by assumption) ?_
    rotate_left
    · intro w_ hSw; (try dsimp only at hSw); have hx := hSw.1.cell 7; simp only [prA] at hx; go_simp <;> with_reducible rfl
    simp only [Act.put, List.setIfInBounds_toArray, List.set_cons_zero, List.set_cons_succ]
    refine wpAnyH_take (i := 5) (oi := ⟨some 29, _, _, _, _, _⟩) (v := ?_) rfl (by kernel_rfl) (by kernel_rfl) (by kernel_rfl) (fun _ _ _ h => h) (Or.inl ⟨by rfl, ?_⟩) (by assumption) ?_
    rotate_left
    · intro w_ hSw; (try dsimp only at hSw); go_simp <;> with_reducible rfl
    simp only [Act.put, List.setIfInBounds_toArray, List.set_cons_zero, List.set_cons_succ]
    refine wpAnyH_take (i := 6) (oi := ⟨some 30, _, _, _, _, _⟩) (v := ?_) rfl (by kernel_rfl) (by kernel_rfl) (by kernel_rfl) (fun _ _ _ h => h) (Or.inl ⟨by rfl, ?_⟩) (by assumption) ?_
    rotate_left
    · intro w_ hSw; (try dsimp only at hSw); have hx := hSw.2.2.2.2.1.cell 4; simp only [pdA] at hx; go_simp <;> with_reducible rfl
    simp only [Act.put, List.setIfInBounds_toArray, List.set_cons_zero, List.set_cons_succ]
    refine wpAnyH_take (i := 9) (oi := ⟨some 33, _, _, _, _, _⟩) (v := ?_) rfl (by kernel_rfl) (by kernel_rfl) (by kernel_rfl) (fun _ _ _ h => h) (Or.inl ⟨by rfl, ?_⟩) (by assumption) ?_
    rotate_left
    · intro w_ hSw; (try dsimp only at hSw); go_simp <;> with_reducible rfl
    simp only [Act.put, List.setIfInBounds_toArray, List.set_cons_zero, List.set_cons_succ]
    refine wpAnyH_take (i := 10) (oi := ⟨some 34, _, _, _, _, _⟩) (v := ?_) rfl (by kernel_rfl) (by kernel_rfl) (by kernel_rfl) (fun _ _ _ h => h) (Or.inl ⟨by rfl, ?_⟩) (by assumption) ?_
    rotate_left
    · intro w_ hSw; (try dsimp only at hSw); have hx2 := hSw.1.cell 2; simp only [prA] at hx2; have hx3 := hSw.1.cell 3; simp only [prA] at hx3; have hx4 := hSw.1.cell 4; simp only [prA] at hx4; have hx5 := hSw.1.cell 5; simp only [prA] at hx5; go_simp <;> with_reducible rfl
    simp only [Act.put, List.setIfInBounds_toArray, List.set_cons_zero, List.set_cons_succ]
    refine wpAnyH_take (i := 11) (oi := ⟨some 35, _, _, _, _, _⟩) (v := .agg (pdA ⟨3, 0, p.train, p.a, q.b, [], 0⟩ none 0)) rfl (by kernel_rfl) (by kernel_rfl) (by kernel_rfl) (fun _ _ _ h => h) (yields_load_row9 rfl 30 _ rfl (gx) rfl 30 (pdA ⟨3, 0, p.train, p.a, q.b, [], 0⟩ none 0) _ (fun _ ⟨_, _, _, h_, _, _⟩ => h_) Try.underlying30 rfl (by kernel_rfl) (by rfl)) (by assumption) ?_
    simp only [Act.put, List.setIfInBounds_toArray, List.set_cons_zero, List.set_cons_succ]
    refine wpAnyH_ready (rs := [7]) (by kernel_rfl) (by simp) ?_
    refine AllReadyH.cons (o := ⟨some 31, _, _, _, _, _⟩) rfl (fun K hK => ?_) ?_
    · go_simp
      obtain ⟨s0, s1, s2, s3, s4, s5⟩ := hHeld
      refine (HD.out _).mono ?_
      rintro e vm ⟨rfl, hbm⟩
      go_wp2_with fail
      refine hK.out _ _ ?_ (fun hHeld => ?_)
      · exact ⟨s0.under hbm s0.lt, (let ⟨o_, h_, e_⟩ := s1; ⟨o_, h_.under hbm h_.lt, e_⟩), (let ⟨o_, h_, e_⟩ := s2; ⟨o_, h_.under hbm h_.lt, e_⟩), s3.under hbm s3.lt, s4.under hbm s4.lt, s5.trans (hbm.mono s5.size)⟩
      clear hK K s0 s1 s2 s3 s4 s5
      try simp only [Act.put, List.setIfInBounds_toArray, List.set_cons_zero, List.set_cons_succ]
      refine wpAnyH_ready (rs := [8]) (by kernel_rfl) (by simp) ?_
      refine AllReadyH.cons (o := ⟨some 32, _, _, _, _, _⟩) rfl (fun K hK => ?_) ?_
      · go_simp
        obtain ⟨s0, s1, s2, s3, s4, s5⟩ := hHeld
        refine (HW.out _).mono ?_
        rintro e vw ⟨rfl, hbw⟩
        go_wp2_with fail
        refine hK.out _ _ ?_ (fun hHeld => ?_)
        · exact ⟨s0.under hbw s0.lt, (let ⟨o_, h_, e_⟩ := s1; ⟨o_, h_.under hbw h_.lt, e_⟩), (let ⟨o_, h_, e_⟩ := s2; ⟨o_, h_.under hbw h_.lt, e_⟩), s3.under hbw s3.lt, s4.under hbw s4.lt, s5.trans (hbw.mono s5.size)⟩
        clear hK K s0 s1 s2 s3 s4 s5
        try simp only [Act.put, List.setIfInBounds_toArray, List.set_cons_zero, List.set_cons_succ]
        refine wpAnyH_ready (rs := [12]) (by kernel_rfl) (by simp) ?_
        refine AllReadyH.cons (o := ⟨some 36, _, _, _, _, _⟩) rfl (fun K hK => ?_) ?_
        · go_simp
          obtain ⟨s0, s1, s2, s3, s4, s5⟩ := hHeld
          refine (HSEAL.out _).mono ?_
          rintro e vs ⟨A2, c2, rfl, _, _, _, hbs, hnn⟩
          obtain ⟨rfl, rfl⟩ := hnn.out rfl
          go_wp2_with fail
          refine hK.out _ _ ?_ (fun hHeld => ?_)
          · exact ⟨s0.under hbs.out s0.lt, (let ⟨o_, h_, e_⟩ := s1; ⟨o_, h_.under hbs.out h_.lt, e_⟩), (let ⟨o_, h_, e_⟩ := s2; ⟨o_, h_.under hbs.out h_.lt, e_⟩), s3.under hbs.out s3.lt, s4.under hbs.out s4.lt, s5.trans (hbs.out.mono s5.size)⟩
          clear hK K s0 s1 s2 s3 s4 s5
          try simp only [Act.put, List.setIfInBounds_toArray, List.set_cons_zero, List.set_cons_succ]
          refine wpAnyH_ready (rs := [13]) (by kernel_rfl) (by simp) ?_
          refine AllReadyH.cons (o := ⟨none, _, _, _, _, _⟩) rfl (fun K hK => ?_) ?_
          · rw [if_pos (by rfl)]
            obtain ⟨s0, s1, s2, s3, s4, s5⟩ := hHeld
            obtain ⟨o_, h_, e_⟩ := s1
            refine wp_store_row 26 _ _ rfl (w.heap.size + 1 + 1) (prA (shWith p 2 ⟨p.a, q.b, dk⟩)) (by rfl) (by rfl) 26 o_ h_.raw (by kernel_rfl) e_ (by kernel_rfl) ?_
            refine hK.out _ _ ?_ (fun hHeld => ?_)
            · exact ⟨has_setRow_other7 s0 (by omega) _, ⟨_, has_setRow7 h_ (prA (shWith p 2 ⟨p.a, q.b, dk⟩)), by kernel_rfl⟩, (let ⟨o_, h_, e_⟩ := s2; ⟨o_, has_setRow_other7 h_ (by omega) _, e_⟩), has_setRow_other7 s3 (by omega) _, has_setRow_other7 s4 (by omega) _, below_row s5 (by omega) _⟩
            refine wpAnyH_more (T := (fun W_ => Has W_ (w.heap.size) 26 (prA p) ∧ Has W_ (w.heap.size + 1 + 1) 26 (prA (shWith p 2 ⟨p.a, q.b, dk⟩)) ∧ (∃ o_ : Array Value, Has W_ (w.heap.size + 1 + 1 + 1) 30 o_ ∧ o_.size = 7) ∧ Has W_ (gx) 30 (pdA ⟨3, 0, p.train, p.a, q.b, [], 0⟩ none 0) ∧ Has W_ (w.heap.size + 1) 30 (pdA q A c) ∧ Below w.heap.size w W_)) (fun _ ⟨s0, s1, s2, s3, s4, s5⟩ => ⟨s0, ⟨_, s1, by kernel_rfl⟩, s2, s3, s4, s5⟩) ?_
            have hHeld2 : (fun W_ => Has W_ (w.heap.size) 26 (prA p) ∧ Has W_ (w.heap.size + 1 + 1) 26 (prA (shWith p 2 ⟨p.a, q.b, dk⟩)) ∧ (∃ o_ : Array Value, Has W_ (w.heap.size + 1 + 1 + 1) 30 o_ ∧ o_.size = 7) ∧ Has W_ (gx) 30 (pdA ⟨3, 0, p.train, p.a, q.b, [], 0⟩ none 0) ∧ Has W_ (w.heap.size + 1) 30 (pdA q A c) ∧ Below w.heap.size w W_) _ := ⟨has_setRow_other7 s0 (by omega) _, has_setRow7 h_ (prA (shWith p 2 ⟨p.a, q.b, dk⟩)), (let ⟨o_, h_, e_⟩ := s2; ⟨o_, has_setRow_other7 h_ (by omega) _, e_⟩), has_setRow_other7 s3 (by omega) _, has_setRow_other7 s4 (by omega) _, below_row s5 (by omega) _⟩
            clear hHeld
            have hHeld := hHeld2
            clear hHeld2 hK K h_ e_ s0 s2 s3 s4 s5
            try simp only [Act.put]
            refine wpAnyH_ready (rs := [14]) (by kernel_rfl) (by simp) ?_
            refine AllReadyH.cons (o := ⟨none, _, _, _, _, _⟩) rfl (fun K hK => ?_) ?_
            · rw [if_pos (by rfl)]
              obtain ⟨s0, s1, s2, s3, s4, s5⟩ := hHeld
              obtain ⟨o_, h_, e_⟩ := s2
              refine wp_store_row 30 _ _ rfl (w.heap.size + 1 + 1 + 1) (pdA (pdSeal p.base ⟨3, 0, p.train, p.a, q.b, [], 0⟩) none 0) (by rfl) (by rfl) 30 o_ h_.raw (by kernel_rfl) e_ (by kernel_rfl) ?_
              refine hK.out _ _ ?_ (fun hHeld => ?_)
              · exact ⟨has_setRow_other7 s0 (by omega) _, has_setRow_other7 s1 (by omega) _, ⟨_, has_setRow7 h_ (pdA (pdSeal p.base ⟨3, 0, p.train, p.a, q.b, [], 0⟩) none 0), by kernel_rfl⟩, has_setRow_other7 s3 (by omega) _, has_setRow_other7 s4 (by omega) _, below_row s5 (by omega) _⟩
              refine wpAnyH_more (T := (fun W_ => Has W_ (w.heap.size) 26 (prA p) ∧ Has W_ (w.heap.size + 1 + 1) 26 (prA (shWith p 2 ⟨p.a, q.b, dk⟩)) ∧ Has W_ (w.heap.size + 1 + 1 + 1) 30 (pdA (pdSeal p.base ⟨3, 0, p.train, p.a, q.b, [], 0⟩) none 0) ∧ Has W_ (gx) 30 (pdA ⟨3, 0, p.train, p.a, q.b, [], 0⟩ none 0) ∧ Has W_ (w.heap.size + 1) 30 (pdA q A c) ∧ Below w.heap.size w W_)) (fun _ ⟨s0, s1, s2, s3, s4, s5⟩ => ⟨s0, s1, ⟨_, s2, by kernel_rfl⟩, s3, s4, s5⟩) ?_
              have hHeld2 : (fun W_ => Has W_ (w.heap.size) 26 (prA p) ∧ Has W_ (w.heap.size + 1 + 1) 26 (prA (shWith p 2 ⟨p.a, q.b, dk⟩)) ∧ Has W_ (w.heap.size + 1 + 1 + 1) 30 (pdA (pdSeal p.base ⟨3, 0, p.train, p.a, q.b, [], 0⟩) none 0) ∧ Has W_ (gx) 30 (pdA ⟨3, 0, p.train, p.a, q.b, [], 0⟩ none 0) ∧ Has W_ (w.heap.size + 1) 30 (pdA q A c) ∧ Below w.heap.size w W_) _ := ⟨has_setRow_other7 s0 (by omega) _, has_setRow_other7 s1 (by omega) _, has_setRow7 h_ (pdA (pdSeal p.base ⟨3, 0, p.train, p.a, q.b, [], 0⟩) none 0), has_setRow_other7 s3 (by omega) _, has_setRow_other7 s4 (by omega) _, below_row s5 (by omega) _⟩
              clear hHeld
              have hHeld := hHeld2
              clear hHeld2 hK K h_ e_ s0 s1 s3 s4 s5
              try simp only [Act.put]
              refine wpAnyH_take (i := 15) (oi := ⟨some 6, _, _, _, _, _⟩) (v := ?_) rfl (by kernel_rfl) (by kernel_rfl) (by kernel_rfl) (fun _ _ _ h => h) (Or.inl ⟨by rfl, ?_⟩) (by assumption) ?_
              rotate_left
              · intro w_ hSw; (try dsimp only at hSw); go_simp <;> with_reducible rfl
              simp only [Act.put, List.setIfInBounds_toArray, List.set_cons_zero, List.set_cons_succ]
              refine wpAnyH_done (by kernel_rfl) ?_ _
              go_wp2_with fail
              go_meet
              exact ⟨rfl, hHeld⟩
            exact AllReadyH.nil
          exact AllReadyH.nil
        exact AllReadyH.nil
      exact AllReadyH.nil
    exact AllReadyH.nil
  case rest =>
    obtain ⟨rfl, _, hy1, hy2, _, _, hyb⟩ := hcut
    have HA1 := Lib.hid hy1; have HA2 := Lib.hid hy2; have HAB := Lib.hid hyb
    clear hy1 hy2 hyb
    go_wp2
    refine bodyPost_ret (results_cct9 rfl _ _ (w.heap.size + 1 + 1) (w.heap.size + 1 + 1 + 1) 26 30 _ _ _ _ rfl HA1.out Try.underlying26 rfl (by kernel_rfl) rfl HA2.out Try.underlying30 rfl (by kernel_rfl)) rfl ?_
    exact ⟨rfl, HAB.out⟩
end Go.Proofs.Ytekcnmimfhiblaa
