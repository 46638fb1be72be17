/-
  linesideref10: End, Close, by contract.
-/
import Derived.Test.YtekcnmimfhiblaaShData
import Derived.Deep.DeepCutAuto
namespace Go.Proofs.Ytekcnmimfhiblaa
open Go.RowKit
open Go.Great

/-- An end, a PDU, an error. -/
def ShPostE (r : Peer × Pdu × Int) (w : World) (e : Ending) (w' : World) : Prop :=
  ∃ A' c', e = .returned (.tuple #[prV r.1, pdV r.2.1 A' c', .int .i64 r.2.2]) ∧ Hid (Sl w' 1 A' r.2.1.body.length c' (u8s r.2.1.body)) ∧ Hid (∀ a, A' = some a → w.heap.size ≤ a.block) ∧ Hid (Below w.heap.size w w')
theorem sl_byte {W : World} {g b : Nat} (h : Has W g 5 #[.int .u8 (b : Nat)]) : Sl W 1 (some ⟨g, 0, none⟩) 1 1 (u8s [b]) := by
  refine ⟨rfl, (fun e => by cases e), fun ad ha j u hu => ?_⟩
  cases ha
  rw [WideShapes.add_plain, h.cell, Nat.zero_add]
  simpa [u8s] using hu

set_option maxRecDepth 100000 in
set_option maxHeartbeats 4000000 in
theorem ref_end (p : Peer) (y : Nat) (hpo : p.ok) (hy : y < 256) (w : World) :
    Calls Try.prog 24 #[prV p, .int .u8 (y : Nat)] w (ShPostE (shEnd p y) w) := by
  obtain ⟨wa, hwa⟩ : ∃ wa, ((w.alloc (.cells (prA p) 26)).alloc (.cells #[.int .i64 0, .int .i64 0, .int .u32 0, .int .u32 0, .int .u32 0, .int .u32 0, .int .i64 0, .int .u32 0, .int .u32 0, .int .u32 0, .int .u32 0, .int .u32 0, .int .u32 0, .bool false, .int .u32 0, .int .u32 0] 26)).alloc (.cells #[.int .i64 0, .int .i64 0, .int .i64 0, .int .u32 0, .int .u32 0, .slice none 0 0, .int .u64 0] 30) = wa := ⟨_, rfl⟩
  have hbwa : Below w.heap.size w wa := by rw [← hwa]; exact (((Below.refl _ _).alloc (Nat.le_refl _) _).alloc (by simp) _).alloc (by simp; omega) _
  have h0 : Has wa (w.heap.size) 26 (prA p) := by rw [← hwa]; exact (((Has.made _ _ _).beside _).beside _)
  have h1 : Has wa (w.heap.size + 1) 26 #[.int .i64 0, .int .i64 0, .int .u32 0, .int .u32 0, .int .u32 0, .int .u32 0, .int .i64 0, .int .u32 0, .int .u32 0, .int .u32 0, .int .u32 0, .int .u32 0, .int .u32 0, .bool false, .int .u32 0, .int .u32 0] := by rw [← hwa]; exact ((has_at (by simp)).beside _)
  have h2 : Has wa (w.heap.size + 1 + 1) 30 #[.int .i64 0, .int .i64 0, .int .i64 0, .int .u32 0, .int .u32 0, .slice none 0 0, .int .u64 0] := by rw [← hwa]; exact (has_at (by simp))
  have HWA := Lib.hid hwa; have HBWA := Lib.hid hbwa
  have HN := Lib.hid (fun W => ref_numbered p W)
  have HCL := Lib.hid (fun W => ref_closed p W)
  have HP := Lib.hid h0; have HZ1 := Lib.hid h1; have HZ2 := Lib.hid h2
  have HC := Lib.hid (fun W (hW : Below wa.heap.size wa W) => And.intro (h0.under hW h0.lt) (And.intro (h1.under hW h1.lt) (h2.under hW h2.lt)))
  have c6 : wa.cell? ⟨w.heap.size, 6, none⟩ = some (.int .i64 p.state) := (h0).cell 6
  clear hwa hbwa h0 h1 h2
  by_cases f1 : p.state = 2
  rotate_left
  · have hr : shEnd p y = (peer0, pdZero, 6) := by unfold shEnd; rw [if_neg f1]
    rw [hr]
    have s0 : (p.state != 2) = true := by simp [f1]
    clear hr f1 HN HC hpo
    unfold prV at *
    go_enter Try.func24, Try.ntmps24
    go_upto_region 1 with fail
    rw [HWA.out]
    clear HWA
    obtain ⟨hx1, hx2, hx3⟩ := two_rows HZ1.out HZ2.out (by omega) (prA peer0) (pdA pdZero none 0)
    have HX0 := Lib.hid (HZ1.out); have HX1 := Lib.hid hx1; have HX2 := Lib.hid hx2; have HX3 := Lib.hid hx3
    have HXB := Lib.hid (below_row (g := w.heap.size + 1 + 1) (below_row (g := w.heap.size + 1) HBWA.out (by omega) (prA peer0)) (by omega) (pdA pdZero none 0))
    clear hx1 hx2 hx3
    go_wp2_with (first | (with_reducible refine wpList_store_rowTo (o := ⟨none, _, _, _, _, _⟩) rfl 26 _ _ rfl rfl (w.heap.size + 1) (prA peer0) rfl rfl 26 _ (HX0.out).raw (by kernel_rfl) (by kernel_rfl) (by kernel_rfl) ?_) | (with_reducible refine wpList_store_rowTo (o := ⟨none, _, _, _, _, _⟩) rfl 30 _ _ rfl rfl (w.heap.size + 1 + 1) (pdA pdZero none 0) rfl rfl 30 _ (HX1.out).raw (by kernel_rfl) (by kernel_rfl) (by kernel_rfl) ?_))
    refine bodyPost_ret (results_cct9 rfl _ _ (w.heap.size + 1) (w.heap.size + 1 + 1) 26 30 _ _ _ _ rfl HX2.out Try.underlying26 rfl (by kernel_rfl) rfl HX3.out Try.underlying30 rfl (by kernel_rfl)) rfl ?_
    exact ⟨none, 0, rfl, Lib.hid (sl_nil _ _), Lib.hid (fun a ha => by cases ha), HXB⟩
  have s0 : (p.state != 2) = false := by simp [f1]
  by_cases f2 : numbered p
  rotate_left
  · have hr : shEnd p y = (peer0, pdZero, 1) := by unfold shEnd; rw [if_pos f1, if_neg f2]
    rw [hr]
    rw [decide_eq_false f2] at HN
    clear hr f1 f2 hpo
    unfold prV at *
    go_enter Try.func24, Try.ntmps24
    go_upto_region 1 with fail
    rw [HWA.out]
    clear HWA
    go_wp2_with (with_reducible refine wpList_load_row (o := ⟨some 15, _, _, _, _, _⟩) rfl 26 _ rfl (w.heap.size) rfl 26 (prA p) (0, 0) _ (HP.out).raw Try.underlying26 rfl (by kernel_rfl) ?_)
    refine (HN.out _).mono ?_
    rintro e w1 ⟨rfl, hb1⟩
    obtain ⟨_, hz1, hz2⟩ := HC.out w1 hb1
    have HY1 := Lib.hid hz1; have HY2 := Lib.hid hz2; have HBW := Lib.hid (HBWA.out.trans (hb1.mono HBWA.out.size))
    clear hb1 hz1 hz2 c6 HN HP HZ1 HZ2 HC
    obtain ⟨hx1, hx2, hx3⟩ := two_rows HY1.out HY2.out (by omega) (prA peer0) (pdA pdZero none 0)
    have HX0 := Lib.hid (HY1.out); have HX1 := Lib.hid hx1; have HX2 := Lib.hid hx2; have HX3 := Lib.hid hx3
    have HXB := Lib.hid (below_row (g := w.heap.size + 1 + 1) (below_row (g := w.heap.size + 1) HBW.out (by omega) (prA peer0)) (by omega) (pdA pdZero none 0))
    clear hx1 hx2 hx3
    go_wp2_with (first | (with_reducible refine wpList_store_rowTo (o := ⟨none, _, _, _, _, _⟩) rfl 26 _ _ rfl rfl (w.heap.size + 1) (prA peer0) rfl rfl 26 _ (HX0.out).raw (by kernel_rfl) (by kernel_rfl) (by kernel_rfl) ?_) | (with_reducible refine wpList_store_rowTo (o := ⟨none, _, _, _, _, _⟩) rfl 30 _ _ rfl rfl (w.heap.size + 1 + 1) (pdA pdZero none 0) rfl rfl 30 _ (HX1.out).raw (by kernel_rfl) (by kernel_rfl) (by kernel_rfl) ?_))
    refine bodyPost_ret (results_cct9 rfl _ _ (w.heap.size + 1) (w.heap.size + 1 + 1) 26 30 _ _ _ _ rfl HX2.out Try.underlying26 rfl (by kernel_rfl) rfl HX3.out Try.underlying30 rfl (by kernel_rfl)) rfl ?_
    exact ⟨none, 0, rfl, Lib.hid (sl_nil _ _), Lib.hid (fun a ha => by cases ha), HXB⟩
  obtain ⟨d, hd⟩ : ∃ d, ownD p = d := ⟨_, rfl⟩
  have hds : (p.side = 0 ∧ d = 0) ∨ (p.side ≠ 0 ∧ d = 1) := by
    by_cases h : p.side = 0
    · exact .inl ⟨h, by rw [← hd]; unfold ownD; rw [if_pos h]⟩
    · exact .inr ⟨h, by rw [← hd]; unfold ownD; rw [if_neg h]⟩
  have hr : shEnd p y = (shClosed p, pdSeal p.key ⟨6, d, p.train, 0, p.b, [y], 0⟩, 0) := by unfold shEnd; rw [if_pos f1, if_pos f2, hd]
  rw [hr]
  have hxo : (⟨6, d, p.train, 0, p.b, [y], 0⟩ : Pdu).ok := ⟨show 0 < 4294967296 by decide, hpo.2.2.1, fun x hx => (by simp at hx; omega), show 0 < 18446744073709551616 by decide⟩
  have HSEAL := Lib.hid (fun A c W hs => ref_seal p.key hpo.2.2.2.1 ⟨6, d, p.train, 0, p.b, [y], 0⟩ A c hxo (show 1 ≤ 2000 by decide) W hs)
  have hbd : (pdSeal p.key ⟨6, d, p.train, 0, p.b, [y], 0⟩).body = [y] := seal_body _ _
  have HBD := Lib.hid hbd
  rw [decide_eq_true f2] at HN
  clear hr f1 f2 hd hxo hbd hpo
  rcases hds with ⟨hs, rfl⟩ | ⟨hs, rfl⟩
  · have s3 : (p.side == 0) = true := by simp [hs]
    clear hs
    unfold prV at *
    go_enter Try.func24, Try.ntmps24
    go_upto_region 1 with fail
    rw [HWA.out]
    clear HWA
    go_wp2_with (with_reducible refine wpList_load_row (o := ⟨some 15, _, _, _, _, _⟩) rfl 26 _ rfl (w.heap.size) rfl 26 (prA p) (0, 0) _ (HP.out).raw Try.underlying26 rfl (by kernel_rfl) ?_)
    refine (HN.out _).mono ?_
    rintro e w1 ⟨rfl, hb1⟩
    obtain ⟨hp, hz1, hz2⟩ := HC.out w1 hb1
    have hbw := HBWA.out.trans (hb1.mono HBWA.out.size)
    clear c6 HN HP HZ1 HZ2 HC
    have c0 : w1.cell? ⟨w.heap.size, 0, none⟩ = some (.int .i64 p.side) := (hp).cell 0
    have c1 : w1.cell? ⟨w.heap.size, 1, none⟩ = some (.int .i64 p.train) := (hp).cell 1
    have c8 : w1.cell? ⟨w.heap.size, 8, none⟩ = some (.int .u32 (p.b : Nat)) := (hp).cell 8
    obtain ⟨gr, hgr⟩ : ∃ gr, w1.heap.size = gr := ⟨_, rfl⟩
    obtain ⟨wr, hwr⟩ : ∃ wr, w1.alloc (.cells #[.int .u8 (y : Nat)] 5) = wr := ⟨_, rfl⟩
    have hbr : Below w1.heap.size w1 wr := by rw [← hwr]; exact (Below.refl _ _).alloc (Nat.le_refl _) _
    have hrr : Has wr gr 5 #[.int .u8 (y : Nat)] := by rw [← hwr, ← hgr]; exact Has.made _ _ _
    have hgrl : w.heap.size + 1 + 1 < gr := by rw [← hgr]; exact hz2.lt
    obtain ⟨wc, hwc⟩ : ∃ wc, wr.alloc (.cells (pdA ⟨6, 0, p.train, 0, p.b, [y], 0⟩ (some ⟨gr, 0, none⟩) 1) 30) = wc := ⟨_, rfl⟩
    have hbc : Below wr.heap.size wr wc := by rw [← hwc]; exact (Below.refl _ _).alloc (Nat.le_refl _) _
    obtain ⟨gx, hgx⟩ : ∃ gx, wr.heap.size = gx := ⟨_, rfl⟩
    have hxc : Has wc gx 30 (pdA ⟨6, 0, p.train, 0, p.b, [y], 0⟩ (some ⟨gr, 0, none⟩) 1) := by rw [← hwc, ← hgx]; exact Has.made _ _ _
    have hgxl : gr < gx := by rw [← hgx]; exact hrr.lt
    have hb1c : Below w1.heap.size w1 wc := hbr.trans (hbc.mono hbr.size)
    have HX := Lib.hid hxc; have HY1 := Lib.hid (hz1.under hb1c hz1.lt); have HY2 := Lib.hid (hz2.under hb1c hz2.lt); have HBC := Lib.hid (hbw.trans (hb1c.mono hbw.size)); have HPC := Lib.hid (hp.under hb1c hp.lt); have HRC := Lib.hid (hrr.under hbc hrr.lt)
    have hx1 : gx = gr + 1 := by rw [← hgx, ← hwr, ← hgr]; simp
    have HWR := Lib.hid hwr; have HWC := Lib.hid hwc; have HGR := Lib.hid hgr; have HGX := Lib.hid hx1
    clear hb1 hp hz1 hz2 hbw hwr hwc hbr hbc hgr hgx hxc hrr hb1c hx1
    go_upto_region 10 with fail
    rw [HGR.out, HWR.out]
    rw [show wr.alloc (.cells #[.int .i64 6, .int .i64 0, .int .i64 p.train, .int .u32 0, .int .u32 (p.b : Nat), .slice (some ⟨gr, 0, none⟩) 1 1, .int .u64 0] 30) = wc from HWC.out]
    rw [← HGX.out]
    clear c0 c1 c8 HWR HWC HGR HGX
    go_cut [6] (fun sx wx => sx = .int .i64 0 ∧ Has wx (w.heap.size) 26 (prA p) ∧ Has wx (w.heap.size + 1) 26 (prA (shClosed p)) ∧ Has wx (w.heap.size + 1 + 1) 30 (pdA (pdSeal p.key ⟨6, 0, p.train, 0, p.b, [y], 0⟩) (some ⟨gr, 0, none⟩) 1) ∧ Has wx (gx) 30 (pdA ⟨6, 0, p.train, 0, p.b, [y], 0⟩ (some ⟨gr, 0, none⟩) 1) ∧ Has wx (gr) 5 #[.int .u8 (y : Nat)] ∧ Below w.heap.size w wx)
    case first =>
      refine wp_region_held_drew (S := (fun W_ => Has W_ (w.heap.size) 26 (prA p) ∧ (∃ o_ : Array Value, Has W_ (w.heap.size + 1) 26 o_ ∧ o_.size = 16) ∧ (∃ o_ : Array Value, Has W_ (w.heap.size + 1 + 1) 30 o_ ∧ o_.size = 7) ∧ Has W_ (gx) 30 (pdA ⟨6, 0, p.train, 0, p.b, [y], 0⟩ (some ⟨gr, 0, none⟩) 1) ∧ Has W_ (gr) 5 #[.int .u8 (y : Nat)] ∧ Below w.heap.size w W_)) (by kernel_rfl) ?_ (fun hHeld => ?_)
      · exact ⟨HPC.out.draw, ⟨_, HY1.out.draw, by kernel_rfl⟩, ⟨_, HY2.out.draw, by kernel_rfl⟩, HX.out.draw, HRC.out.draw, below_dr HBC.out⟩
      refine wpAnyH_take (i := 0) (oi := ⟨some 32, _, _, _, _, _⟩) (v := .agg (prA p)) rfl (by kernel_rfl) (by kernel_rfl) (by kernel_rfl) (fun _ _ _ h => h) (yields_load_row9 rfl 26 _ rfl (w.heap.size) rfl 26 (prA p) _ (fun _ ⟨h_, _, _, _, _, _⟩ => h_) Try.underlying26 rfl (by kernel_rfl) (by rfl)) (by assumption) ?_
      simp only [Act.put, List.setIfInBounds_toArray, List.set_cons_zero, List.set_cons_succ]
      refine wpAnyH_take (i := 2) (oi := ⟨some 34, _, _, _, _, _⟩) (v := ?_) rfl (by kernel_rfl) (by kernel_rfl) (by kernel_rfl) (fun _ _ _ h => h) (Or.inl ⟨by rfl, ?_⟩) (by assumption) ?_
      rotate_left
      · intro w_ hSw; (try dsimp only at hSw); go_simp <;> with_reducible rfl
      simp only [Act.put, List.setIfInBounds_toArray, List.set_cons_zero, List.set_cons_succ]
      refine wpAnyH_take (i := 3) (oi := ⟨some 35, _, _, _, _, _⟩) (v := ?_) rfl (by kernel_rfl) (by kernel_rfl) (by kernel_rfl) (fun _ _ _ h => h) (Or.inl ⟨by rfl, ?_⟩) (by assumption) ?_
      rotate_left
      · intro w_ hSw; (try dsimp only at hSw); have hx9 := hSw.1.cell 9; simp only [prA] at hx9; have hx10 := hSw.1.cell 10; simp only [prA] at hx10; have hx11 := hSw.1.cell 11; simp only [prA] at hx11; have hx12 := hSw.1.cell 12; simp only [prA] at hx12; go_simp <;> with_reducible rfl
      simp only [Act.put, List.setIfInBounds_toArray, List.set_cons_zero, List.set_cons_succ]
      refine wpAnyH_take (i := 4) (oi := ⟨some 36, _, _, _, _, _⟩) (v := .agg (pdA ⟨6, 0, p.train, 0, p.b, [y], 0⟩ (some ⟨gr, 0, none⟩) 1)) rfl (by kernel_rfl) (by kernel_rfl) (by kernel_rfl) (fun _ _ _ h => h) (yields_load_row9 rfl 30 _ rfl (gx) rfl 30 (pdA ⟨6, 0, p.train, 0, p.b, [y], 0⟩ (some ⟨gr, 0, none⟩) 1) _ (fun _ ⟨_, _, _, h_, _, _⟩ => h_) Try.underlying30 rfl (by kernel_rfl) (by rfl)) (by assumption) ?_
      simp only [Act.put, List.setIfInBounds_toArray, List.set_cons_zero, List.set_cons_succ]
      refine wpAnyH_ready (rs := [1]) (by kernel_rfl) (by simp) ?_
      refine AllReadyH.cons (o := ⟨some 33, _, _, _, _, _⟩) rfl (fun K hK => ?_) ?_
      · go_simp
        obtain ⟨s0, s1, s2, s3, s4, s5⟩ := hHeld
        refine (HCL.out _).mono ?_
        rintro e vc ⟨rfl, hbc⟩
        go_wp2_with fail
        refine hK.out _ _ ?_ (fun hHeld => ?_)
        · exact ⟨s0.under hbc s0.lt, (let ⟨o_, h_, e_⟩ := s1; ⟨o_, h_.under hbc h_.lt, e_⟩), (let ⟨o_, h_, e_⟩ := s2; ⟨o_, h_.under hbc h_.lt, e_⟩), s3.under hbc s3.lt, s4.under hbc s4.lt, s5.trans (hbc.mono s5.size)⟩
        clear hK K s0 s1 s2 s3 s4 s5
        try simp only [Act.put, List.setIfInBounds_toArray, List.set_cons_zero, List.set_cons_succ]
        refine wpAnyH_ready (rs := [5]) (by kernel_rfl) (by simp) ?_
        refine AllReadyH.cons (o := ⟨some 37, _, _, _, _, _⟩) rfl (fun K hK => ?_) ?_
        · go_simp
          obtain ⟨s0, s1, s2, s3, s4, s5⟩ := hHeld
          refine (HSEAL.out _ _ _ (sl_byte s4)).mono ?_
          rintro e vs ⟨rfl, hbs⟩
          go_wp2_with fail
          refine hK.out _ _ ?_ (fun hHeld => ?_)
          · exact ⟨s0.under hbs s0.lt, (let ⟨o_, h_, e_⟩ := s1; ⟨o_, h_.under hbs h_.lt, e_⟩), (let ⟨o_, h_, e_⟩ := s2; ⟨o_, h_.under hbs h_.lt, e_⟩), s3.under hbs s3.lt, s4.under hbs s4.lt, s5.trans (hbs.mono s5.size)⟩
          clear hK K s0 s1 s2 s3 s4 s5
          try simp only [Act.put, List.setIfInBounds_toArray, List.set_cons_zero, List.set_cons_succ]
          refine wpAnyH_ready (rs := [6]) (by kernel_rfl) (by simp) ?_
          refine AllReadyH.cons (o := ⟨none, _, _, _, _, _⟩) rfl (fun K hK => ?_) ?_
          · rw [if_pos (by rfl)]
            obtain ⟨s0, s1, s2, s3, s4, s5⟩ := hHeld
            obtain ⟨o_, h_, e_⟩ := s1
            refine wp_store_row 26 _ _ rfl (w.heap.size + 1) (prA (shClosed p)) (by rfl) (by rfl) 26 o_ h_.raw (by kernel_rfl) e_ (by kernel_rfl) ?_
            refine hK.out _ _ ?_ (fun hHeld => ?_)
            · exact ⟨has_setRow_other7 s0 (by omega) _, ⟨_, has_setRow7 h_ (prA (shClosed p)), by kernel_rfl⟩, (let ⟨o_, h_, e_⟩ := s2; ⟨o_, has_setRow_other7 h_ (by omega) _, e_⟩), has_setRow_other7 s3 (by omega) _, has_setRow_other7 s4 (by omega) _, below_row s5 (by omega) _⟩
            refine wpAnyH_more (T := (fun W_ => Has W_ (w.heap.size) 26 (prA p) ∧ Has W_ (w.heap.size + 1) 26 (prA (shClosed p)) ∧ (∃ o_ : Array Value, Has W_ (w.heap.size + 1 + 1) 30 o_ ∧ o_.size = 7) ∧ Has W_ (gx) 30 (pdA ⟨6, 0, p.train, 0, p.b, [y], 0⟩ (some ⟨gr, 0, none⟩) 1) ∧ Has W_ (gr) 5 #[.int .u8 (y : Nat)] ∧ Below w.heap.size w W_)) (fun _ ⟨s0, s1, s2, s3, s4, s5⟩ => ⟨s0, ⟨_, s1, by kernel_rfl⟩, s2, s3, s4, s5⟩) ?_
            have hHeld2 : (fun W_ => Has W_ (w.heap.size) 26 (prA p) ∧ Has W_ (w.heap.size + 1) 26 (prA (shClosed p)) ∧ (∃ o_ : Array Value, Has W_ (w.heap.size + 1 + 1) 30 o_ ∧ o_.size = 7) ∧ Has W_ (gx) 30 (pdA ⟨6, 0, p.train, 0, p.b, [y], 0⟩ (some ⟨gr, 0, none⟩) 1) ∧ Has W_ (gr) 5 #[.int .u8 (y : Nat)] ∧ Below w.heap.size w W_) _ := ⟨has_setRow_other7 s0 (by omega) _, has_setRow7 h_ (prA (shClosed p)), (let ⟨o_, h_, e_⟩ := s2; ⟨o_, has_setRow_other7 h_ (by omega) _, e_⟩), has_setRow_other7 s3 (by omega) _, has_setRow_other7 s4 (by omega) _, below_row s5 (by omega) _⟩
            clear hHeld
            have hHeld := hHeld2
            clear hHeld2 hK K h_ e_ s0 s2 s3 s4 s5
            try simp only [Act.put]
            refine wpAnyH_ready (rs := [7]) (by kernel_rfl) (by simp) ?_
            refine AllReadyH.cons (o := ⟨none, _, _, _, _, _⟩) rfl (fun K hK => ?_) ?_
            · rw [if_pos (by rfl)]
              obtain ⟨s0, s1, s2, s3, s4, s5⟩ := hHeld
              obtain ⟨o_, h_, e_⟩ := s2
              refine wp_store_row 30 _ _ rfl (w.heap.size + 1 + 1) (pdA (pdSeal p.key ⟨6, 0, p.train, 0, p.b, [y], 0⟩) (some ⟨gr, 0, none⟩) 1) (by rfl) (by rfl) 30 o_ h_.raw (by kernel_rfl) e_ (by kernel_rfl) ?_
              refine hK.out _ _ ?_ (fun hHeld => ?_)
              · exact ⟨has_setRow_other7 s0 (by omega) _, has_setRow_other7 s1 (by omega) _, ⟨_, has_setRow7 h_ (pdA (pdSeal p.key ⟨6, 0, p.train, 0, p.b, [y], 0⟩) (some ⟨gr, 0, none⟩) 1), by kernel_rfl⟩, has_setRow_other7 s3 (by omega) _, has_setRow_other7 s4 (by omega) _, below_row s5 (by omega) _⟩
              refine wpAnyH_more (T := (fun W_ => Has W_ (w.heap.size) 26 (prA p) ∧ Has W_ (w.heap.size + 1) 26 (prA (shClosed p)) ∧ Has W_ (w.heap.size + 1 + 1) 30 (pdA (pdSeal p.key ⟨6, 0, p.train, 0, p.b, [y], 0⟩) (some ⟨gr, 0, none⟩) 1) ∧ Has W_ (gx) 30 (pdA ⟨6, 0, p.train, 0, p.b, [y], 0⟩ (some ⟨gr, 0, none⟩) 1) ∧ Has W_ (gr) 5 #[.int .u8 (y : Nat)] ∧ Below w.heap.size w W_)) (fun _ ⟨s0, s1, s2, s3, s4, s5⟩ => ⟨s0, s1, ⟨_, s2, by kernel_rfl⟩, s3, s4, s5⟩) ?_
              have hHeld2 : (fun W_ => Has W_ (w.heap.size) 26 (prA p) ∧ Has W_ (w.heap.size + 1) 26 (prA (shClosed p)) ∧ Has W_ (w.heap.size + 1 + 1) 30 (pdA (pdSeal p.key ⟨6, 0, p.train, 0, p.b, [y], 0⟩) (some ⟨gr, 0, none⟩) 1) ∧ Has W_ (gx) 30 (pdA ⟨6, 0, p.train, 0, p.b, [y], 0⟩ (some ⟨gr, 0, none⟩) 1) ∧ Has W_ (gr) 5 #[.int .u8 (y : Nat)] ∧ Below w.heap.size w W_) _ := ⟨has_setRow_other7 s0 (by omega) _, has_setRow_other7 s1 (by omega) _, has_setRow7 h_ (pdA (pdSeal p.key ⟨6, 0, p.train, 0, p.b, [y], 0⟩) (some ⟨gr, 0, none⟩) 1), has_setRow_other7 s3 (by omega) _, has_setRow_other7 s4 (by omega) _, below_row s5 (by omega) _⟩
              clear hHeld
              have hHeld := hHeld2
              clear hHeld2 hK K h_ e_ s0 s1 s3 s4 s5
              try simp only [Act.put]
              refine wpAnyH_take (i := 8) (oi := ⟨some 6, _, _, _, _, _⟩) (v := ?_) rfl (by kernel_rfl) (by kernel_rfl) (by kernel_rfl) (fun _ _ _ h => h) (Or.inl ⟨by rfl, ?_⟩) (by assumption) ?_
              rotate_left
              · intro w_ hSw; (try dsimp only at hSw); go_simp <;> with_reducible rfl
              simp only [Act.put, List.setIfInBounds_toArray, List.set_cons_zero, List.set_cons_succ]
              refine wpAnyH_done (by kernel_rfl) ?_ _
              go_wp2_with fail
              go_meet
              exact ⟨rfl, hHeld⟩
            exact AllReadyH.nil
          exact AllReadyH.nil
        exact AllReadyH.nil
      exact AllReadyH.nil
    case rest =>
      obtain ⟨rfl, _, hy1, hy2, _, hyr, hyb⟩ := hcut
      have HA1 := Lib.hid hy1; have HA2 := Lib.hid hy2; have HAB := Lib.hid hyb; have HAR := Lib.hid hyr
      clear hy1 hy2 hyb hyr
      go_wp2
      refine bodyPost_ret (results_cct9 rfl _ _ (w.heap.size + 1) (w.heap.size + 1 + 1) 26 30 _ _ _ _ rfl HA1.out Try.underlying26 rfl (by kernel_rfl) rfl HA2.out Try.underlying30 rfl (by kernel_rfl)) rfl ?_
      exact ⟨some ⟨gr, 0, none⟩, 1, rfl, Lib.hid (by simp only [HBD.out]; exact sl_byte HAR.out), Lib.hid (fun a ha => by cases ha; show w.heap.size ≤ gr; omega), HAB⟩
  · have s3 : (p.side == 0) = false := by simp [hs]
    clear hs
    unfold prV at *
    go_enter Try.func24, Try.ntmps24
    go_upto_region 1 with fail
    rw [HWA.out]
    clear HWA
    go_wp2_with (with_reducible refine wpList_load_row (o := ⟨some 15, _, _, _, _, _⟩) rfl 26 _ rfl (w.heap.size) rfl 26 (prA p) (0, 0) _ (HP.out).raw Try.underlying26 rfl (by kernel_rfl) ?_)
    refine (HN.out _).mono ?_
    rintro e w1 ⟨rfl, hb1⟩
    obtain ⟨hp, hz1, hz2⟩ := HC.out w1 hb1
    have hbw := HBWA.out.trans (hb1.mono HBWA.out.size)
    clear c6 HN HP HZ1 HZ2 HC
    have c0 : w1.cell? ⟨w.heap.size, 0, none⟩ = some (.int .i64 p.side) := (hp).cell 0
    have c1 : w1.cell? ⟨w.heap.size, 1, none⟩ = some (.int .i64 p.train) := (hp).cell 1
    have c8 : w1.cell? ⟨w.heap.size, 8, none⟩ = some (.int .u32 (p.b : Nat)) := (hp).cell 8
    obtain ⟨gr, hgr⟩ : ∃ gr, w1.heap.size = gr := ⟨_, rfl⟩
    obtain ⟨wr, hwr⟩ : ∃ wr, w1.alloc (.cells #[.int .u8 (y : Nat)] 5) = wr := ⟨_, rfl⟩
    have hbr : Below w1.heap.size w1 wr := by rw [← hwr]; exact (Below.refl _ _).alloc (Nat.le_refl _) _
    have hrr : Has wr gr 5 #[.int .u8 (y : Nat)] := by rw [← hwr, ← hgr]; exact Has.made _ _ _
    have hgrl : w.heap.size + 1 + 1 < gr := by rw [← hgr]; exact hz2.lt
    obtain ⟨wc, hwc⟩ : ∃ wc, wr.alloc (.cells (pdA ⟨6, 1, p.train, 0, p.b, [y], 0⟩ (some ⟨gr, 0, none⟩) 1) 30) = wc := ⟨_, rfl⟩
    have hbc : Below wr.heap.size wr wc := by rw [← hwc]; exact (Below.refl _ _).alloc (Nat.le_refl _) _
    obtain ⟨gx, hgx⟩ : ∃ gx, wr.heap.size = gx := ⟨_, rfl⟩
    have hxc : Has wc gx 30 (pdA ⟨6, 1, p.train, 0, p.b, [y], 0⟩ (some ⟨gr, 0, none⟩) 1) := by rw [← hwc, ← hgx]; exact Has.made _ _ _
    have hgxl : gr < gx := by rw [← hgx]; exact hrr.lt
    have hb1c : Below w1.heap.size w1 wc := hbr.trans (hbc.mono hbr.size)
    have HX := Lib.hid hxc; have HY1 := Lib.hid (hz1.under hb1c hz1.lt); have HY2 := Lib.hid (hz2.under hb1c hz2.lt); have HBC := Lib.hid (hbw.trans (hb1c.mono hbw.size)); have HPC := Lib.hid (hp.under hb1c hp.lt); have HRC := Lib.hid (hrr.under hbc hrr.lt)
    have hx1 : gx = gr + 1 := by rw [← hgx, ← hwr, ← hgr]; simp
    have HWR := Lib.hid hwr; have HWC := Lib.hid hwc; have HGR := Lib.hid hgr; have HGX := Lib.hid hx1
    clear hb1 hp hz1 hz2 hbw hwr hwc hbr hbc hgr hgx hxc hrr hb1c hx1
    go_upto_region 10 with fail
    rw [HGR.out, HWR.out]
    rw [show wr.alloc (.cells #[.int .i64 6, .int .i64 1, .int .i64 p.train, .int .u32 0, .int .u32 (p.b : Nat), .slice (some ⟨gr, 0, none⟩) 1 1, .int .u64 0] 30) = wc from HWC.out]
    rw [← HGX.out]
    clear c0 c1 c8 HWR HWC HGR HGX
    go_cut [6] (fun sx wx => sx = .int .i64 0 ∧ Has wx (w.heap.size) 26 (prA p) ∧ Has wx (w.heap.size + 1) 26 (prA (shClosed p)) ∧ Has wx (w.heap.size + 1 + 1) 30 (pdA (pdSeal p.key ⟨6, 1, p.train, 0, p.b, [y], 0⟩) (some ⟨gr, 0, none⟩) 1) ∧ Has wx (gx) 30 (pdA ⟨6, 1, p.train, 0, p.b, [y], 0⟩ (some ⟨gr, 0, none⟩) 1) ∧ Has wx (gr) 5 #[.int .u8 (y : Nat)] ∧ Below w.heap.size w wx)
    case first =>
      refine wp_region_held_drew (S := (fun W_ => Has W_ (w.heap.size) 26 (prA p) ∧ (∃ o_ : Array Value, Has W_ (w.heap.size + 1) 26 o_ ∧ o_.size = 16) ∧ (∃ o_ : Array Value, Has W_ (w.heap.size + 1 + 1) 30 o_ ∧ o_.size = 7) ∧ Has W_ (gx) 30 (pdA ⟨6, 1, p.train, 0, p.b, [y], 0⟩ (some ⟨gr, 0, none⟩) 1) ∧ Has W_ (gr) 5 #[.int .u8 (y : Nat)] ∧ Below w.heap.size w W_)) (by kernel_rfl) ?_ (fun hHeld => ?_)
      · exact ⟨HPC.out.draw, ⟨_, HY1.out.draw, by kernel_rfl⟩, ⟨_, HY2.out.draw, by kernel_rfl⟩, HX.out.draw, HRC.out.draw, below_dr HBC.out⟩
      refine wpAnyH_take (i := 0) (oi := ⟨some 32, _, _, _, _, _⟩) (v := .agg (prA p)) rfl (by kernel_rfl) (by kernel_rfl) (by kernel_rfl) (fun _ _ _ h => h) (yields_load_row9 rfl 26 _ rfl (w.heap.size) rfl 26 (prA p) _ (fun _ ⟨h_, _, _, _, _, _⟩ => h_) Try.underlying26 rfl (by kernel_rfl) (by rfl)) (by assumption) ?_
      simp only [Act.put, List.setIfInBounds_toArray, List.set_cons_zero, List.set_cons_succ]
      refine wpAnyH_take (i := 2) (oi := ⟨some 34, _, _, _, _, _⟩) (v := ?_) rfl (by kernel_rfl) (by kernel_rfl) (by kernel_rfl) (fun _ _ _ h => h) (Or.inl ⟨by rfl, ?_⟩) (by assumption) ?_
      rotate_left
      · intro w_ hSw; (try dsimp only at hSw); go_simp <;> with_reducible rfl
      simp only [Act.put, List.setIfInBounds_toArray, List.set_cons_zero, List.set_cons_succ]
      refine wpAnyH_take (i := 3) (oi := ⟨some 35, _, _, _, _, _⟩) (v := ?_) rfl (by kernel_rfl) (by kernel_rfl) (by kernel_rfl) (fun _ _ _ h => h) (Or.inl ⟨by rfl, ?_⟩) (by assumption) ?_
      rotate_left
      · intro w_ hSw; (try dsimp only at hSw); have hx9 := hSw.1.cell 9; simp only [prA] at hx9; have hx10 := hSw.1.cell 10; simp only [prA] at hx10; have hx11 := hSw.1.cell 11; simp only [prA] at hx11; have hx12 := hSw.1.cell 12; simp only [prA] at hx12; go_simp <;> with_reducible rfl
      simp only [Act.put, List.setIfInBounds_toArray, List.set_cons_zero, List.set_cons_succ]
      refine wpAnyH_take (i := 4) (oi := ⟨some 36, _, _, _, _, _⟩) (v := .agg (pdA ⟨6, 1, p.train, 0, p.b, [y], 0⟩ (some ⟨gr, 0, none⟩) 1)) rfl (by kernel_rfl) (by kernel_rfl) (by kernel_rfl) (fun _ _ _ h => h) (yields_load_row9 rfl 30 _ rfl (gx) rfl 30 (pdA ⟨6, 1, p.train, 0, p.b, [y], 0⟩ (some ⟨gr, 0, none⟩) 1) _ (fun _ ⟨_, _, _, h_, _, _⟩ => h_) Try.underlying30 rfl (by kernel_rfl) (by rfl)) (by assumption) ?_
      simp only [Act.put, List.setIfInBounds_toArray, List.set_cons_zero, List.set_cons_succ]
      refine wpAnyH_ready (rs := [1]) (by kernel_rfl) (by simp) ?_
      refine AllReadyH.cons (o := ⟨some 33, _, _, _, _, _⟩) rfl (fun K hK => ?_) ?_
      · go_simp
        obtain ⟨s0, s1, s2, s3, s4, s5⟩ := hHeld
        refine (HCL.out _).mono ?_
        rintro e vc ⟨rfl, hbc⟩
        go_wp2_with fail
        refine hK.out _ _ ?_ (fun hHeld => ?_)
        · exact ⟨s0.under hbc s0.lt, (let ⟨o_, h_, e_⟩ := s1; ⟨o_, h_.under hbc h_.lt, e_⟩), (let ⟨o_, h_, e_⟩ := s2; ⟨o_, h_.under hbc h_.lt, e_⟩), s3.under hbc s3.lt, s4.under hbc s4.lt, s5.trans (hbc.mono s5.size)⟩
        clear hK K s0 s1 s2 s3 s4 s5
        try simp only [Act.put, List.setIfInBounds_toArray, List.set_cons_zero, List.set_cons_succ]
        refine wpAnyH_ready (rs := [5]) (by kernel_rfl) (by simp) ?_
        refine AllReadyH.cons (o := ⟨some 37, _, _, _, _, _⟩) rfl (fun K hK => ?_) ?_
        · go_simp
          obtain ⟨s0, s1, s2, s3, s4, s5⟩ := hHeld
          refine (HSEAL.out _ _ _ (sl_byte s4)).mono ?_
          rintro e vs ⟨rfl, hbs⟩
          go_wp2_with fail
          refine hK.out _ _ ?_ (fun hHeld => ?_)
          · exact ⟨s0.under hbs s0.lt, (let ⟨o_, h_, e_⟩ := s1; ⟨o_, h_.under hbs h_.lt, e_⟩), (let ⟨o_, h_, e_⟩ := s2; ⟨o_, h_.under hbs h_.lt, e_⟩), s3.under hbs s3.lt, s4.under hbs s4.lt, s5.trans (hbs.mono s5.size)⟩
          clear hK K s0 s1 s2 s3 s4 s5
          try simp only [Act.put, List.setIfInBounds_toArray, List.set_cons_zero, List.set_cons_succ]
          refine wpAnyH_ready (rs := [6]) (by kernel_rfl) (by simp) ?_
          refine AllReadyH.cons (o := ⟨none, _, _, _, _, _⟩) rfl (fun K hK => ?_) ?_
          · rw [if_pos (by rfl)]
            obtain ⟨s0, s1, s2, s3, s4, s5⟩ := hHeld
            obtain ⟨o_, h_, e_⟩ := s1
            refine wp_store_row 26 _ _ rfl (w.heap.size + 1) (prA (shClosed p)) (by rfl) (by rfl) 26 o_ h_.raw (by kernel_rfl) e_ (by kernel_rfl) ?_
            refine hK.out _ _ ?_ (fun hHeld => ?_)
            · exact ⟨has_setRow_other7 s0 (by omega) _, ⟨_, has_setRow7 h_ (prA (shClosed p)), by kernel_rfl⟩, (let ⟨o_, h_, e_⟩ := s2; ⟨o_, has_setRow_other7 h_ (by omega) _, e_⟩), has_setRow_other7 s3 (by omega) _, has_setRow_other7 s4 (by omega) _, below_row s5 (by omega) _⟩
            refine wpAnyH_more (T := (fun W_ => Has W_ (w.heap.size) 26 (prA p) ∧ Has W_ (w.heap.size + 1) 26 (prA (shClosed p)) ∧ (∃ o_ : Array Value, Has W_ (w.heap.size + 1 + 1) 30 o_ ∧ o_.size = 7) ∧ Has W_ (gx) 30 (pdA ⟨6, 1, p.train, 0, p.b, [y], 0⟩ (some ⟨gr, 0, none⟩) 1) ∧ Has W_ (gr) 5 #[.int .u8 (y : Nat)] ∧ Below w.heap.size w W_)) (fun _ ⟨s0, s1, s2, s3, s4, s5⟩ => ⟨s0, ⟨_, s1, by kernel_rfl⟩, s2, s3, s4, s5⟩) ?_
            have hHeld2 : (fun W_ => Has W_ (w.heap.size) 26 (prA p) ∧ Has W_ (w.heap.size + 1) 26 (prA (shClosed p)) ∧ (∃ o_ : Array Value, Has W_ (w.heap.size + 1 + 1) 30 o_ ∧ o_.size = 7) ∧ Has W_ (gx) 30 (pdA ⟨6, 1, p.train, 0, p.b, [y], 0⟩ (some ⟨gr, 0, none⟩) 1) ∧ Has W_ (gr) 5 #[.int .u8 (y : Nat)] ∧ Below w.heap.size w W_) _ := ⟨has_setRow_other7 s0 (by omega) _, has_setRow7 h_ (prA (shClosed p)), (let ⟨o_, h_, e_⟩ := s2; ⟨o_, has_setRow_other7 h_ (by omega) _, e_⟩), has_setRow_other7 s3 (by omega) _, has_setRow_other7 s4 (by omega) _, below_row s5 (by omega) _⟩
            clear hHeld
            have hHeld := hHeld2
            clear hHeld2 hK K h_ e_ s0 s2 s3 s4 s5
            try simp only [Act.put]
            refine wpAnyH_ready (rs := [7]) (by kernel_rfl) (by simp) ?_
            refine AllReadyH.cons (o := ⟨none, _, _, _, _, _⟩) rfl (fun K hK => ?_) ?_
            · rw [if_pos (by rfl)]
              obtain ⟨s0, s1, s2, s3, s4, s5⟩ := hHeld
              obtain ⟨o_, h_, e_⟩ := s2
              refine wp_store_row 30 _ _ rfl (w.heap.size + 1 + 1) (pdA (pdSeal p.key ⟨6, 1, p.train, 0, p.b, [y], 0⟩) (some ⟨gr, 0, none⟩) 1) (by rfl) (by rfl) 30 o_ h_.raw (by kernel_rfl) e_ (by kernel_rfl) ?_
              refine hK.out _ _ ?_ (fun hHeld => ?_)
              · exact ⟨has_setRow_other7 s0 (by omega) _, has_setRow_other7 s1 (by omega) _, ⟨_, has_setRow7 h_ (pdA (pdSeal p.key ⟨6, 1, p.train, 0, p.b, [y], 0⟩) (some ⟨gr, 0, none⟩) 1), by kernel_rfl⟩, has_setRow_other7 s3 (by omega) _, has_setRow_other7 s4 (by omega) _, below_row s5 (by omega) _⟩
              refine wpAnyH_more (T := (fun W_ => Has W_ (w.heap.size) 26 (prA p) ∧ Has W_ (w.heap.size + 1) 26 (prA (shClosed p)) ∧ Has W_ (w.heap.size + 1 + 1) 30 (pdA (pdSeal p.key ⟨6, 1, p.train, 0, p.b, [y], 0⟩) (some ⟨gr, 0, none⟩) 1) ∧ Has W_ (gx) 30 (pdA ⟨6, 1, p.train, 0, p.b, [y], 0⟩ (some ⟨gr, 0, none⟩) 1) ∧ Has W_ (gr) 5 #[.int .u8 (y : Nat)] ∧ Below w.heap.size w W_)) (fun _ ⟨s0, s1, s2, s3, s4, s5⟩ => ⟨s0, s1, ⟨_, s2, by kernel_rfl⟩, s3, s4, s5⟩) ?_
              have hHeld2 : (fun W_ => Has W_ (w.heap.size) 26 (prA p) ∧ Has W_ (w.heap.size + 1) 26 (prA (shClosed p)) ∧ Has W_ (w.heap.size + 1 + 1) 30 (pdA (pdSeal p.key ⟨6, 1, p.train, 0, p.b, [y], 0⟩) (some ⟨gr, 0, none⟩) 1) ∧ Has W_ (gx) 30 (pdA ⟨6, 1, p.train, 0, p.b, [y], 0⟩ (some ⟨gr, 0, none⟩) 1) ∧ Has W_ (gr) 5 #[.int .u8 (y : Nat)] ∧ Below w.heap.size w W_) _ := ⟨has_setRow_other7 s0 (by omega) _, has_setRow_other7 s1 (by omega) _, has_setRow7 h_ (pdA (pdSeal p.key ⟨6, 1, p.train, 0, p.b, [y], 0⟩) (some ⟨gr, 0, none⟩) 1), has_setRow_other7 s3 (by omega) _, has_setRow_other7 s4 (by omega) _, below_row s5 (by omega) _⟩
              clear hHeld
              have hHeld := hHeld2
              clear hHeld2 hK K h_ e_ s0 s1 s3 s4 s5
              try simp only [Act.put]
              refine wpAnyH_take (i := 8) (oi := ⟨some 6, _, _, _, _, _⟩) (v := ?_) rfl (by kernel_rfl) (by kernel_rfl) (by kernel_rfl) (fun _ _ _ h => h) (Or.inl ⟨by rfl, ?_⟩) (by assumption) ?_
              rotate_left
              · intro w_ hSw; (try dsimp only at hSw); go_simp <;> with_reducible rfl
              simp only [Act.put, List.setIfInBounds_toArray, List.set_cons_zero, List.set_cons_succ]
              refine wpAnyH_done (by kernel_rfl) ?_ _
              go_wp2_with fail
              go_meet
              exact ⟨rfl, hHeld⟩
            exact AllReadyH.nil
          exact AllReadyH.nil
        exact AllReadyH.nil
      exact AllReadyH.nil
    case rest =>
      obtain ⟨rfl, _, hy1, hy2, _, hyr, hyb⟩ := hcut
      have HA1 := Lib.hid hy1; have HA2 := Lib.hid hy2; have HAB := Lib.hid hyb; have HAR := Lib.hid hyr
      clear hy1 hy2 hyb hyr
      go_wp2
      refine bodyPost_ret (results_cct9 rfl _ _ (w.heap.size + 1) (w.heap.size + 1 + 1) 26 30 _ _ _ _ rfl HA1.out Try.underlying26 rfl (by kernel_rfl) rfl HA2.out Try.underlying30 rfl (by kernel_rfl)) rfl ?_
      exact ⟨some ⟨gr, 0, none⟩, 1, rfl, Lib.hid (by simp only [HBD.out]; exact sl_byte HAR.out), Lib.hid (fun a ha => by cases ha; show w.heap.size ≤ gr; omega), HAB⟩

set_option maxRecDepth 100000 in
set_option maxHeartbeats 4000000 in
theorem ref_close (p : Peer) (q : Pdu) (A : Option Addr) (c : Nat) (hpo : p.ok) (hk : q.ok) (hn : q.body.length ≤ 2000) (w : World) (hs : Sl w 1 A q.body.length c (u8s q.body)) :
    Calls Try.prog 26 #[prV p, pdV q A c] w (ShPost2 (shClose p q) w) := by
  obtain ⟨wa, hwa⟩ : ∃ wa, ((w.alloc (.cells (prA p) 26)).alloc (.cells (pdA q A c) 30)).alloc (.cells #[.int .i64 0, .int .i64 0, .int .u32 0, .int .u32 0, .int .u32 0, .int .u32 0, .int .i64 0, .int .u32 0, .int .u32 0, .int .u32 0, .int .u32 0, .int .u32 0, .int .u32 0, .bool false, .int .u32 0, .int .u32 0] 26) = wa := ⟨_, rfl⟩
  have hbwa : Below w.heap.size w wa := by rw [← hwa]; exact (((Below.refl _ _).alloc (Nat.le_refl _) _).alloc (by simp) _).alloc (by simp; omega) _
  have h0 : Has wa (w.heap.size) 26 (prA p) := by rw [← hwa]; exact (((Has.made _ _ _).beside _).beside _)
  have h1 : Has wa (w.heap.size + 1) 30 (pdA q A c) := by rw [← hwa]; exact ((has_at (by simp)).beside _)
  have h2 : Has wa (w.heap.size + 1 + 1) 26 #[.int .i64 0, .int .i64 0, .int .u32 0, .int .u32 0, .int .u32 0, .int .u32 0, .int .i64 0, .int .u32 0, .int .u32 0, .int .u32 0, .int .u32 0, .int .u32 0, .int .u32 0, .bool false, .int .u32 0, .int .u32 0] := by rw [← hwa]; exact (has_at (by simp))
  have HWA := Lib.hid hwa; have HBWA := Lib.hid hbwa
  have HF := Lib.hid (fun W (hW : Below w.heap.size w W) => ref_came p q A c 6 hpo hk hn W (Sl.under hs hW))
  have HCL := Lib.hid (fun W => ref_closed p W)
  have HP := Lib.hid h0; have HQ := Lib.hid h1
  have HC := Lib.hid (fun W (hW : Below wa.heap.size wa W) => And.intro (h0.under hW h0.lt) (And.intro (h1.under hW h1.lt) (h2.under hW h2.lt)))
  clear hwa h0 h1 h2
  clear hpo hk hn hs
  obtain ⟨E, hE⟩ : ∃ E, shCame p q 6 = E := ⟨_, rfl⟩
  rw [hE] at HF
  by_cases f1 : E = 0
  · subst f1
    have hr : shClose p q = (shClosed p, 0) := by unfold shClose; rw [if_pos hE]
    rw [hr]
    clear hr hE hbwa
    unfold prV pdV at *
    go_enter Try.func26, Try.ntmps26
    go_upto_region 1 with fail
    rw [HWA.out]
    clear HWA
    go_wp2_with (first | (with_reducible refine wpList_load_row (o := ⟨some 7, _, _, _, _, _⟩) rfl 26 _ rfl (w.heap.size) rfl 26 (prA p) (0, 0) _ (HP.out).raw Try.underlying26 rfl (by kernel_rfl) ?_) | (with_reducible refine wpList_load_row (o := ⟨some 8, _, _, _, _, _⟩) rfl 30 _ rfl (w.heap.size + 1) rfl 30 (pdA q A c) (0, 0) _ (HQ.out).raw Try.underlying30 rfl (by kernel_rfl) ?_))
    refine (HF.out _ HBWA.out).mono ?_
    rintro e w1 ⟨rfl, hb1⟩
    obtain ⟨hp, _, _⟩ := HC.out w1 hb1
    have HP1 := Lib.hid hp; have HB1 := Lib.hid hb1
    clear hp hb1
    go_wp2_with (with_reducible refine wpList_load_row (o := ⟨some 14, _, _, _, _, _⟩) rfl 26 _ rfl (w.heap.size) rfl 26 (prA p) (0, 0) _ (HP1.out).raw Try.underlying26 rfl (by kernel_rfl) ?_)
    refine (HCL.out _).mono ?_
    rintro e w2 ⟨rfl, hb2⟩
    have hb12 := HB1.out.trans (hb2.mono HB1.out.size)
    obtain ⟨_, _, hz1⟩ := HC.out w2 hb12
    have HZ1 := Lib.hid hz1; have HBW := Lib.hid (HBWA.out.trans (hb12.mono HBWA.out.size))
    clear hz1 hb12 hb2 HB1
    have HX0 := Lib.hid (HZ1.out); have HX2 := Lib.hid (has_setRow7 HZ1.out (prA (shClosed p)))
    have HXB := Lib.hid (below_row (g := w.heap.size + 1 + 1) HBW.out (by omega) (prA (shClosed p)))
    go_wp2_with (with_reducible refine wpList_store_rowTo (o := ⟨none, _, _, _, _, _⟩) rfl 26 _ _ rfl rfl (w.heap.size + 1 + 1) (prA (shClosed p)) rfl rfl 26 _ (HX0.out).raw (by kernel_rfl) (by kernel_rfl) (by kernel_rfl) ?_)
    refine bodyPost_ret (results_row_tmp9 rfl _ _ (w.heap.size + 1 + 1) 26 _ _ rfl HX2.out Try.underlying26 rfl (by kernel_rfl)) rfl ?_
    exact ⟨rfl, HXB.out⟩
  · have hr : shClose p q = (peer0, E) := by unfold shClose; rw [if_neg (by rw [hE]; exact f1), hE]
    rw [hr]
    have s0 : (E != 0) = true := by simp [f1]
    clear hr hE f1 hbwa
    unfold prV pdV at *
    go_enter Try.func26, Try.ntmps26
    go_upto_region 1 with fail
    rw [HWA.out]
    clear HWA
    go_wp2_with (first | (with_reducible refine wpList_load_row (o := ⟨some 7, _, _, _, _, _⟩) rfl 26 _ rfl (w.heap.size) rfl 26 (prA p) (0, 0) _ (HP.out).raw Try.underlying26 rfl (by kernel_rfl) ?_) | (with_reducible refine wpList_load_row (o := ⟨some 8, _, _, _, _, _⟩) rfl 30 _ rfl (w.heap.size + 1) rfl 30 (pdA q A c) (0, 0) _ (HQ.out).raw Try.underlying30 rfl (by kernel_rfl) ?_))
    refine (HF.out _ HBWA.out).mono ?_
    rintro e w1 ⟨rfl, hb1⟩
    obtain ⟨_, _, hz1⟩ := HC.out w1 hb1
    have HZ1 := Lib.hid hz1; have HBW := Lib.hid (HBWA.out.trans (hb1.mono HBWA.out.size))
    clear hb1 hz1
    have HX0 := Lib.hid (HZ1.out); have HX2 := Lib.hid (has_setRow7 HZ1.out (prA peer0))
    have HXB := Lib.hid (below_row (g := w.heap.size + 1 + 1) HBW.out (by omega) (prA peer0))
    go_wp2_with (with_reducible refine wpList_store_rowTo (o := ⟨none, _, _, _, _, _⟩) rfl 26 _ _ rfl rfl (w.heap.size + 1 + 1) (prA peer0) rfl rfl 26 _ (HX0.out).raw (by kernel_rfl) (by kernel_rfl) (by kernel_rfl) ?_)
    refine bodyPost_ret (results_row_tmp9 rfl _ _ (w.heap.size + 1 + 1) 26 _ _ rfl HX2.out Try.underlying26 rfl (by kernel_rfl)) rfl ?_
    exact ⟨rfl, HXB.out⟩
end Go.Proofs.Ytekcnmimfhiblaa
