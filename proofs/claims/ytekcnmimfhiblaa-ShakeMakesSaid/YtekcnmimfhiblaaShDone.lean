/-
  linesideref10.Done, by contract.
-/
import Derived.Test.YtekcnmimfhiblaaShCon
import Derived.Deep.DeepCutAuto
namespace Go.Proofs.Ytekcnmimfhiblaa
open Go.RowKit
open Go.Great

set_option maxRecDepth 100000 in
set_option maxHeartbeats 4000000 in
theorem ref_done (p : Peer) (q : Pdu) (A : Option Addr) (c : Nat) (hpo : p.ok) (hk : q.ok) (hn : q.body.length ≤ 2000) (w : World) (hs : Sl w 1 A q.body.length c (u8s q.body)) :
    Calls Try.prog 18 #[prV p, pdV q A c] w (ShPost2 (shDone p q) w) := by
  obtain ⟨wa, hwa⟩ : ∃ wa, ((w.alloc (.cells (prA p) 26)).alloc (.cells (pdA q A c) 30)).alloc (.cells #[.int .i64 0, .int .i64 0, .int .u32 0, .int .u32 0, .int .u32 0, .int .u32 0, .int .i64 0, .int .u32 0, .int .u32 0, .int .u32 0, .int .u32 0, .int .u32 0, .int .u32 0, .bool false, .int .u32 0, .int .u32 0] 26) = wa := ⟨_, rfl⟩
  have hbwa : Below w.heap.size w wa := by rw [← hwa]; exact (((Below.refl _ _).alloc (Nat.le_refl _) _).alloc (by simp) _).alloc (by simp; omega) _
  have h0 : Has wa (w.heap.size) 26 (prA p) := by rw [← hwa]; exact (((Has.made _ _ _).beside _).beside _)
  have h1 : Has wa (w.heap.size + 1) 30 (pdA q A c) := by rw [← hwa]; exact ((has_at (by simp)).beside _)
  have h2 : Has wa (w.heap.size + 1 + 1) 26 #[.int .i64 0, .int .i64 0, .int .u32 0, .int .u32 0, .int .u32 0, .int .u32 0, .int .i64 0, .int .u32 0, .int .u32 0, .int .u32 0, .int .u32 0, .int .u32 0, .int .u32 0, .bool false, .int .u32 0, .int .u32 0] := by rw [← hwa]; exact (has_at (by simp))
  have HWA := Lib.hid hwa; have HBWA := Lib.hid hbwa
  have HF := Lib.hid (fun W => ref_fits p q A c 3 hk (by omega) W)
  have HR := Lib.hid (fun W (hW : Below w.heap.size w W) => ref_right p.base hpo.1 q A c hk hn W (Sl.under hs hW))
  have HD := Lib.hid (fun W => ref_derive p.base hpo.1 p.a2 p.b2 hpo.2.2.2.2.1 hpo.2.2.2.2.2 W)
  have HP := Lib.hid h0; have HQ := Lib.hid h1
  have HC := Lib.hid (fun W (hW : Below wa.heap.size wa W) => And.intro (h0.under hW h0.lt) (And.intro (h1.under hW h1.lt) (h2.under hW h2.lt)))
  clear hwa hbwa h0 h1 h2
  clear hpo hk hn hs
  by_cases hg : p.side ≠ 0 ∧ shFits p q 3
  rotate_left
  · have hr : shDone p q = (peer0, 1) := by
      unfold shDone; rw [if_neg hg]
    rw [hr]
    obtain ⟨b, hb⟩ : ∃ b, decide (shFits p q 3) = b := ⟨_, rfl⟩
    rw [hb] at HF
    have s0 : ((p.side == 0) = true) ∨ ((p.side == 0) = false ∧ b = false) := by
      by_cases h : p.side = 0
      · exact .inl (by simp [h])
      · exact .inr ⟨by simp [h], by rw [← hb]; exact decide_eq_false (fun h2 => hg ⟨h, h2⟩)⟩
    clear hr hb hg HR HD
    unfold prV pdV at *
    go_enter Try.func18, Try.ntmps18
    go_upto_region 1 with fail
    rw [HWA.out]
    clear HWA
    go_wp2_with (first | (with_reducible refine wpList_load_row (o := ⟨some 8, _, _, _, _, _⟩) rfl 26 _ rfl (w.heap.size) rfl 26 (prA p) (0, 0) _ (HP.out).raw Try.underlying26 rfl (by kernel_rfl) ?_) | (with_reducible refine wpList_load_row (o := ⟨some 9, _, _, _, _, _⟩) rfl 30 _ rfl (w.heap.size + 1) rfl 30 (pdA q A c) (0, 0) _ (HQ.out).raw Try.underlying30 rfl (by kernel_rfl) ?_))
    refine (HF.out _).mono ?_
    rintro e w1 ⟨rfl, hb1⟩
    obtain ⟨hp, hq, hz1⟩ := HC.out w1 hb1
    have hbw := HBWA.out.trans (hb1.mono HBWA.out.size)
    have c0 : w1.cell? ⟨w.heap.size, 0, none⟩ = some (.int .i64 p.side) := (hp).cell 0
    have HZ1 := Lib.hid hz1; have HBW := Lib.hid hbw
    clear hb1 hp hq hz1 hbw HF HP HQ HC
    rcases s0 with s0 | ⟨s0, rfl⟩
    all_goals
      have HX0 := Lib.hid (HZ1.out); have HX2 := Lib.hid (has_setRow7 HZ1.out (prA peer0))
      have HXB := Lib.hid (below_row (g := w.heap.size + 1 + 1) HBW.out (by omega) (prA peer0))
      go_wp2_with (with_reducible refine wpList_store_rowTo (o := ⟨none, _, _, _, _, _⟩) rfl 26 _ _ rfl rfl (w.heap.size + 1 + 1) (prA peer0) rfl rfl 26 _ (HX0.out).raw (by kernel_rfl) (by kernel_rfl) (by kernel_rfl) ?_)
      refine bodyPost_ret (results_row_tmp9 rfl _ _ (w.heap.size + 1 + 1) 26 _ _ rfl HX2.out Try.underlying26 rfl (by kernel_rfl)) rfl ?_
      exact ⟨rfl, HXB.out⟩
  rw [decide_eq_true hg.2] at HF
  have s0 : (p.side == 0) = false := by simp [hg.1]
  by_cases f2 : p.half = true
  rotate_left
  · have hr : shDone p q = (peer0, 6) := by
      unfold shDone; rw [if_pos hg, if_neg f2]
    rw [hr]
    have s1 : p.half = false := by simpa using f2
    clear hr hg f2 HR HD
    unfold prV pdV at *
    go_enter Try.func18, Try.ntmps18
    go_upto_region 1 with fail
    rw [HWA.out]
    clear HWA
    go_wp2_with (first | (with_reducible refine wpList_load_row (o := ⟨some 8, _, _, _, _, _⟩) rfl 26 _ rfl (w.heap.size) rfl 26 (prA p) (0, 0) _ (HP.out).raw Try.underlying26 rfl (by kernel_rfl) ?_) | (with_reducible refine wpList_load_row (o := ⟨some 9, _, _, _, _, _⟩) rfl 30 _ rfl (w.heap.size + 1) rfl 30 (pdA q A c) (0, 0) _ (HQ.out).raw Try.underlying30 rfl (by kernel_rfl) ?_))
    refine (HF.out _).mono ?_
    rintro e w1 ⟨rfl, hb1⟩
    obtain ⟨hp, hq, hz1⟩ := HC.out w1 hb1
    have hbw := HBWA.out.trans (hb1.mono HBWA.out.size)
    have c0 : w1.cell? ⟨w.heap.size, 0, none⟩ = some (.int .i64 p.side) := (hp).cell 0
    have c13 : w1.cell? ⟨w.heap.size, 13, none⟩ = some (.bool p.half) := (hp).cell 13
    have HZ1 := Lib.hid hz1; have HBW := Lib.hid hbw
    clear hb1 hp hq hz1 hbw HF HP HQ HC
    rw [s1] at c13
    have HX0 := Lib.hid (HZ1.out); have HX2 := Lib.hid (has_setRow7 HZ1.out (prA peer0))
    have HXB := Lib.hid (below_row (g := w.heap.size + 1 + 1) HBW.out (by omega) (prA peer0))
    go_wp2_with (with_reducible refine wpList_store_rowTo (o := ⟨none, _, _, _, _, _⟩) rfl 26 _ _ rfl rfl (w.heap.size + 1 + 1) (prA peer0) rfl rfl 26 _ (HX0.out).raw (by kernel_rfl) (by kernel_rfl) (by kernel_rfl) ?_)
    refine bodyPost_ret (results_row_tmp9 rfl _ _ (w.heap.size + 1 + 1) 26 _ _ rfl HX2.out Try.underlying26 rfl (by kernel_rfl)) rfl ?_
    exact ⟨rfl, HXB.out⟩
  by_cases f3 : q.a = p.a2 ∧ q.b = p.b2
  rotate_left
  · have hr : shDone p q = (peer0, 110) := by
      unfold shDone; rw [if_pos hg, if_pos f2, if_neg f3]
    rw [hr]
    have s2 : (((q.a : Int) != (p.a2 : Int)) = true) ∨ ((((q.a : Int) != (p.a2 : Int)) = false) ∧ (((q.b : Int) != (p.b2 : Int)) = true)) := by
      by_cases h : q.a = p.a2
      · exact .inr ⟨by simp; omega, by simp; omega⟩
      · exact .inl (by simp; omega)
    clear hr hg f3 HR HD
    unfold prV pdV at *
    go_enter Try.func18, Try.ntmps18
    go_upto_region 1 with fail
    rw [HWA.out]
    clear HWA
    go_wp2_with (first | (with_reducible refine wpList_load_row (o := ⟨some 8, _, _, _, _, _⟩) rfl 26 _ rfl (w.heap.size) rfl 26 (prA p) (0, 0) _ (HP.out).raw Try.underlying26 rfl (by kernel_rfl) ?_) | (with_reducible refine wpList_load_row (o := ⟨some 9, _, _, _, _, _⟩) rfl 30 _ rfl (w.heap.size + 1) rfl 30 (pdA q A c) (0, 0) _ (HQ.out).raw Try.underlying30 rfl (by kernel_rfl) ?_))
    refine (HF.out _).mono ?_
    rintro e w1 ⟨rfl, hb1⟩
    obtain ⟨hp, hq, hz1⟩ := HC.out w1 hb1
    have hbw := HBWA.out.trans (hb1.mono HBWA.out.size)
    have c0 : w1.cell? ⟨w.heap.size, 0, none⟩ = some (.int .i64 p.side) := (hp).cell 0
    have c13 : w1.cell? ⟨w.heap.size, 13, none⟩ = some (.bool p.half) := (hp).cell 13
    have c14 : w1.cell? ⟨w.heap.size, 14, none⟩ = some (.int .u32 (p.a2 : Nat)) := (hp).cell 14
    have c15 : w1.cell? ⟨w.heap.size, 15, none⟩ = some (.int .u32 (p.b2 : Nat)) := (hp).cell 15
    have d3 : w1.cell? ⟨w.heap.size + 1, 3, none⟩ = some (.int .u32 (q.a : Nat)) := (hq).cell 3
    have d4 : w1.cell? ⟨w.heap.size + 1, 4, none⟩ = some (.int .u32 (q.b : Nat)) := (hq).cell 4
    have HZ1 := Lib.hid hz1; have HBW := Lib.hid hbw
    clear hb1 hp hq hz1 hbw HF HP HQ HC
    rw [f2] at c13
    rcases s2 with s2 | ⟨s2, s3⟩
    all_goals
      have HX0 := Lib.hid (HZ1.out); have HX2 := Lib.hid (has_setRow7 HZ1.out (prA peer0))
      have HXB := Lib.hid (below_row (g := w.heap.size + 1 + 1) HBW.out (by omega) (prA peer0))
      go_wp2_with (with_reducible refine wpList_store_rowTo (o := ⟨none, _, _, _, _, _⟩) rfl 26 _ _ rfl rfl (w.heap.size + 1 + 1) (prA peer0) rfl rfl 26 _ (HX0.out).raw (by kernel_rfl) (by kernel_rfl) (by kernel_rfl) ?_)
      refine bodyPost_ret (results_row_tmp9 rfl _ _ (w.heap.size + 1 + 1) 26 _ _ rfl HX2.out Try.underlying26 rfl (by kernel_rfl)) rfl ?_
      exact ⟨rfl, HXB.out⟩
  have s2 : ((q.a : Int) != (p.a2 : Int)) = false := by simp; omega
  have s3 : ((q.b : Int) != (p.b2 : Int)) = false := by simp; omega
  by_cases f4 : pdRight p.base q
  rotate_left
  · have hr : shDone p q = (peer0, 90) := by
      unfold shDone; rw [if_pos hg, if_pos f2, if_pos f3, if_neg f4]
    rw [hr]
    rw [decide_eq_false f4] at HR
    clear hr hg f3 f4 HD
    unfold prV pdV at *
    go_enter Try.func18, Try.ntmps18
    go_upto_region 1 with fail
    rw [HWA.out]
    clear HWA
    go_wp2_with (first | (with_reducible refine wpList_load_row (o := ⟨some 8, _, _, _, _, _⟩) rfl 26 _ rfl (w.heap.size) rfl 26 (prA p) (0, 0) _ (HP.out).raw Try.underlying26 rfl (by kernel_rfl) ?_) | (with_reducible refine wpList_load_row (o := ⟨some 9, _, _, _, _, _⟩) rfl 30 _ rfl (w.heap.size + 1) rfl 30 (pdA q A c) (0, 0) _ (HQ.out).raw Try.underlying30 rfl (by kernel_rfl) ?_))
    refine (HF.out _).mono ?_
    rintro e w1 ⟨rfl, hb1⟩
    obtain ⟨hp, hq, hz1⟩ := HC.out w1 hb1
    have hbw := HBWA.out.trans (hb1.mono HBWA.out.size)
    have c0 : w1.cell? ⟨w.heap.size, 0, none⟩ = some (.int .i64 p.side) := (hp).cell 0
    have c2 : w1.cell? ⟨w.heap.size, 2, none⟩ = some (.int .u32 (p.base.a : Nat)) := (hp).cell 2
    have c3 : w1.cell? ⟨w.heap.size, 3, none⟩ = some (.int .u32 (p.base.b : Nat)) := (hp).cell 3
    have c4 : w1.cell? ⟨w.heap.size, 4, none⟩ = some (.int .u32 (p.base.c : Nat)) := (hp).cell 4
    have c5 : w1.cell? ⟨w.heap.size, 5, none⟩ = some (.int .u32 (p.base.d : Nat)) := (hp).cell 5
    have c13 : w1.cell? ⟨w.heap.size, 13, none⟩ = some (.bool p.half) := (hp).cell 13
    have c14 : w1.cell? ⟨w.heap.size, 14, none⟩ = some (.int .u32 (p.a2 : Nat)) := (hp).cell 14
    have c15 : w1.cell? ⟨w.heap.size, 15, none⟩ = some (.int .u32 (p.b2 : Nat)) := (hp).cell 15
    have d3 : w1.cell? ⟨w.heap.size + 1, 3, none⟩ = some (.int .u32 (q.a : Nat)) := (hq).cell 3
    have d4 : w1.cell? ⟨w.heap.size + 1, 4, none⟩ = some (.int .u32 (q.b : Nat)) := (hq).cell 4
    have HQ1 := Lib.hid hq; have HB1 := Lib.hid hb1; have HBW := Lib.hid hbw
    have HR1 := Lib.hid (HR.out w1 hbw)
    unfold keyV keyA at HR1
    rw [f2] at c13
    clear hb1 hp hq hz1 hbw HF HP HQ HR
    go_wp2_with (with_reducible refine wpList_load_row (o := ⟨some 38, _, _, _, _, _⟩) rfl 30 _ rfl (w.heap.size + 1) rfl 30 (pdA q A c) (0, 0) _ (HQ1.out).raw Try.underlying30 rfl (by kernel_rfl) ?_)
    refine HR1.out.mono ?_
    rintro e w2 ⟨rfl, hb2⟩
    obtain ⟨_, _, hz1⟩ := HC.out w2 (HB1.out.trans (hb2.mono HB1.out.size))
    have HZ1 := Lib.hid hz1; have HBW2 := Lib.hid (HBW.out.trans (hb2.mono HBW.out.size))
    clear hb2 hz1 c0 c2 c3 c4 c5 c13 c14 c15 d3 d4 HQ1 HB1 HR1 HC
    have HX0 := Lib.hid (HZ1.out); have HX2 := Lib.hid (has_setRow7 HZ1.out (prA peer0))
    have HXB := Lib.hid (below_row (g := w.heap.size + 1 + 1) HBW2.out (by omega) (prA peer0))
    go_wp2_with (with_reducible refine wpList_store_rowTo (o := ⟨none, _, _, _, _, _⟩) rfl 26 _ _ rfl rfl (w.heap.size + 1 + 1) (prA peer0) rfl rfl 26 _ (HX0.out).raw (by kernel_rfl) (by kernel_rfl) (by kernel_rfl) ?_)
    refine bodyPost_ret (results_row_tmp9 rfl _ _ (w.heap.size + 1 + 1) 26 _ _ rfl HX2.out Try.underlying26 rfl (by kernel_rfl)) rfl ?_
    exact ⟨rfl, HXB.out⟩
  have hr : shDone p q = ({ p with state := 2, a := p.a2, b := p.b2, key := deriveF p.base p.a2 p.b2, half := false, a2 := 0, b2 := 0 }, 0) := by
    unfold shDone; rw [if_pos hg, if_pos f2, if_pos f3, if_pos f4]
  rw [hr]
  rw [decide_eq_true f4] at HR
  clear hr hg f3 f4
  generalize hdk : deriveF p.base p.a2 p.b2 = dk at *
  clear hdk
  unfold prV pdV at *
  go_enter Try.func18, Try.ntmps18
  go_upto_region 1 with fail
  rw [HWA.out]
  clear HWA
  go_wp2_with (first | (with_reducible refine wpList_load_row (o := ⟨some 8, _, _, _, _, _⟩) rfl 26 _ rfl (w.heap.size) rfl 26 (prA p) (0, 0) _ (HP.out).raw Try.underlying26 rfl (by kernel_rfl) ?_) | (with_reducible refine wpList_load_row (o := ⟨some 9, _, _, _, _, _⟩) rfl 30 _ rfl (w.heap.size + 1) rfl 30 (pdA q A c) (0, 0) _ (HQ.out).raw Try.underlying30 rfl (by kernel_rfl) ?_))
  refine (HF.out _).mono ?_
  rintro e w1 ⟨rfl, hb1⟩
  obtain ⟨hp, hq, hz1⟩ := HC.out w1 hb1
  have hbw := HBWA.out.trans (hb1.mono HBWA.out.size)
  have c0 : w1.cell? ⟨w.heap.size, 0, none⟩ = some (.int .i64 p.side) := (hp).cell 0
  have c2 : w1.cell? ⟨w.heap.size, 2, none⟩ = some (.int .u32 (p.base.a : Nat)) := (hp).cell 2
  have c3 : w1.cell? ⟨w.heap.size, 3, none⟩ = some (.int .u32 (p.base.b : Nat)) := (hp).cell 3
  have c4 : w1.cell? ⟨w.heap.size, 4, none⟩ = some (.int .u32 (p.base.c : Nat)) := (hp).cell 4
  have c5 : w1.cell? ⟨w.heap.size, 5, none⟩ = some (.int .u32 (p.base.d : Nat)) := (hp).cell 5
  have c13 : w1.cell? ⟨w.heap.size, 13, none⟩ = some (.bool p.half) := (hp).cell 13
  have c14 : w1.cell? ⟨w.heap.size, 14, none⟩ = some (.int .u32 (p.a2 : Nat)) := (hp).cell 14
  have c15 : w1.cell? ⟨w.heap.size, 15, none⟩ = some (.int .u32 (p.b2 : Nat)) := (hp).cell 15
  have d3 : w1.cell? ⟨w.heap.size + 1, 3, none⟩ = some (.int .u32 (q.a : Nat)) := (hq).cell 3
  have d4 : w1.cell? ⟨w.heap.size + 1, 4, none⟩ = some (.int .u32 (q.b : Nat)) := (hq).cell 4
  have HQ1 := Lib.hid hq; have HB1 := Lib.hid hb1; have HBW := Lib.hid hbw
  have HR1 := Lib.hid (HR.out w1 hbw)
  unfold keyV keyA at HR1
  rw [f2] at c13
  clear hb1 hp hq hz1 hbw HF HP HQ HR
  go_wp2_with (with_reducible refine wpList_load_row (o := ⟨some 38, _, _, _, _, _⟩) rfl 30 _ rfl (w.heap.size + 1) rfl 30 (pdA q A c) (0, 0) _ (HQ1.out).raw Try.underlying30 rfl (by kernel_rfl) ?_)
  refine HR1.out.mono ?_
  rintro e w2 ⟨rfl, hb2⟩
  obtain ⟨hp, hq, hz1⟩ := HC.out w2 (HB1.out.trans (hb2.mono HB1.out.size))
  have hbw := HBW.out.trans (hb2.mono HBW.out.size)
  clear c0 c2 c3 c4 c5 c13 c14 c15 d3 d4 HQ1 HB1 HR1 HC HBW
  have c2 : w2.cell? ⟨w.heap.size, 2, none⟩ = some (.int .u32 (p.base.a : Nat)) := (hp).cell 2
  have c3 : w2.cell? ⟨w.heap.size, 3, none⟩ = some (.int .u32 (p.base.b : Nat)) := (hp).cell 3
  have c4 : w2.cell? ⟨w.heap.size, 4, none⟩ = some (.int .u32 (p.base.c : Nat)) := (hp).cell 4
  have c5 : w2.cell? ⟨w.heap.size, 5, none⟩ = some (.int .u32 (p.base.d : Nat)) := (hp).cell 5
  have c6 : w2.cell? ⟨w.heap.size, 6, none⟩ = some (.int .i64 p.state) := (hp).cell 6
  have c7 : w2.cell? ⟨w.heap.size, 7, none⟩ = some (.int .u32 (p.a : Nat)) := (hp).cell 7
  have c8 : w2.cell? ⟨w.heap.size, 8, none⟩ = some (.int .u32 (p.b : Nat)) := (hp).cell 8
  have c14 : w2.cell? ⟨w.heap.size, 14, none⟩ = some (.int .u32 (p.a2 : Nat)) := (hp).cell 14
  have c15 : w2.cell? ⟨w.heap.size, 15, none⟩ = some (.int .u32 (p.b2 : Nat)) := (hp).cell 15
  have f6 : w2.frozen? ⟨w.heap.size, 6, none⟩ = false := (hp).thaw 6
  have f7 : w2.frozen? ⟨w.heap.size, 7, none⟩ = false := (hp).thaw 7
  have f8 : w2.frozen? ⟨w.heap.size, 8, none⟩ = false := (hp).thaw 8
  obtain ⟨wb, hwb⟩ : ∃ wb, ((w2.setCell ⟨w.heap.size, 6, none⟩ (.int .i64 2)).setCell ⟨w.heap.size, 7, none⟩ (.int .u32 (p.a2 : Nat))).setCell ⟨w.heap.size, 8, none⟩ (.int .u32 (p.b2 : Nat)) = wb := ⟨_, rfl⟩
  have hpb : Has wb (w.heap.size) 26 (prA { p with state := 2, a := p.a2, b := p.b2 }) := by rw [← hwb]; exact (((hp.stored 6 _).stored 7 _).stored 8 _).is (by kernel_rfl)
  have hy1 : Has wb (w.heap.size + 1 + 1) 26 #[.int .i64 0, .int .i64 0, .int .u32 0, .int .u32 0, .int .u32 0, .int .u32 0, .int .i64 0, .int .u32 0, .int .u32 0, .int .u32 0, .int .u32 0, .int .u32 0, .int .u32 0, .bool false, .int .u32 0, .int .u32 0] := by rw [← hwb]; exact (((hz1.apart (p := ⟨w.heap.size, 6, none⟩) (by show _ ≠ w.heap.size; omega) _).apart (p := ⟨w.heap.size, 7, none⟩) (by show _ ≠ w.heap.size; omega) _).apart (p := ⟨w.heap.size, 8, none⟩) (by show _ ≠ w.heap.size; omega) _)
  have hbb : Below w.heap.size w wb := by rw [← hwb]; exact (((hbw.setCell (p := ⟨w.heap.size, 6, none⟩) (by show w.heap.size ≤ w.heap.size; omega) _).setCell (p := ⟨w.heap.size, 7, none⟩) (by show w.heap.size ≤ w.heap.size; omega) _).setCell (p := ⟨w.heap.size, 8, none⟩) (by show w.heap.size ≤ w.heap.size; omega) _)
  have HWB := Lib.hid hwb
  clear hwb
  have b2 : wb.cell? ⟨w.heap.size, 2, none⟩ = some (.int .u32 (p.base.a : Nat)) := (hpb).cell 2
  have b3 : wb.cell? ⟨w.heap.size, 3, none⟩ = some (.int .u32 (p.base.b : Nat)) := (hpb).cell 3
  have b4 : wb.cell? ⟨w.heap.size, 4, none⟩ = some (.int .u32 (p.base.c : Nat)) := (hpb).cell 4
  have b5 : wb.cell? ⟨w.heap.size, 5, none⟩ = some (.int .u32 (p.base.d : Nat)) := (hpb).cell 5
  have b7 : wb.cell? ⟨w.heap.size, 7, none⟩ = some (.int .u32 (p.a2 : Nat)) := (hpb).cell 7
  have b8 : wb.cell? ⟨w.heap.size, 8, none⟩ = some (.int .u32 (p.b2 : Nat)) := (hpb).cell 8
  have HPM := Lib.hid hpb; have HYM1 := Lib.hid hy1; have HBM := Lib.hid hbb
  have HD1 := Lib.hid (HD.out wb)
  unfold keyV keyA at HD1
  clear hb2 hp hq hz1 hbw hpb hy1 hbb HD
  go_upto_region 14 with fail
  rw [HWB.out]
  clear c2 c3 c4 c5 c6 c7 c8 c14 c15 f6 f7 f8 HWB
  go_wp2_with fail
  refine HD1.out.mono ?_
  rintro e w3 ⟨rfl, hb3⟩
  have hp := HPM.out.under hb3 HPM.out.lt
  have hz1 := HYM1.out.under hb3 HYM1.out.lt
  have hbw := HBM.out.trans (hb3.mono HBM.out.size)
  clear b2 b3 b4 b5 b7 b8 HPM HYM1 HBM HD1
  have c9 : w3.cell? ⟨w.heap.size, 9, none⟩ = some (.int .u32 (p.key.a : Nat)) := (hp).cell 9
  have c10 : w3.cell? ⟨w.heap.size, 10, none⟩ = some (.int .u32 (p.key.b : Nat)) := (hp).cell 10
  have c11 : w3.cell? ⟨w.heap.size, 11, none⟩ = some (.int .u32 (p.key.c : Nat)) := (hp).cell 11
  have c12 : w3.cell? ⟨w.heap.size, 12, none⟩ = some (.int .u32 (p.key.d : Nat)) := (hp).cell 12
  have c13 : w3.cell? ⟨w.heap.size, 13, none⟩ = some (.bool p.half) := (hp).cell 13
  have c14 : w3.cell? ⟨w.heap.size, 14, none⟩ = some (.int .u32 (p.a2 : Nat)) := (hp).cell 14
  have c15 : w3.cell? ⟨w.heap.size, 15, none⟩ = some (.int .u32 (p.b2 : Nat)) := (hp).cell 15
  have f9 : w3.frozen? ⟨w.heap.size, 9, none⟩ = false := (hp).thaw 9
  have f10 : w3.frozen? ⟨w.heap.size, 10, none⟩ = false := (hp).thaw 10
  have f11 : w3.frozen? ⟨w.heap.size, 11, none⟩ = false := (hp).thaw 11
  have f12 : w3.frozen? ⟨w.heap.size, 12, none⟩ = false := (hp).thaw 12
  have f13 : w3.frozen? ⟨w.heap.size, 13, none⟩ = false := (hp).thaw 13
  have f14 : w3.frozen? ⟨w.heap.size, 14, none⟩ = false := (hp).thaw 14
  have f15 : w3.frozen? ⟨w.heap.size, 15, none⟩ = false := (hp).thaw 15
  obtain ⟨wd, hwd⟩ : ∃ wd, ((((((w3.setCell ⟨w.heap.size, 9, none⟩ (.int .u32 (dk.a : Nat))).setCell ⟨w.heap.size, 10, none⟩ (.int .u32 (dk.b : Nat))).setCell ⟨w.heap.size, 11, none⟩ (.int .u32 (dk.c : Nat))).setCell ⟨w.heap.size, 12, none⟩ (.int .u32 (dk.d : Nat))).setCell ⟨w.heap.size, 13, none⟩ (.bool false)).setCell ⟨w.heap.size, 14, none⟩ (.int .u32 0)).setCell ⟨w.heap.size, 15, none⟩ (.int .u32 0) = wd := ⟨_, rfl⟩
  have hpb : Has wd (w.heap.size) 26 (prA { p with state := 2, a := p.a2, b := p.b2, key := dk, half := false, a2 := 0, b2 := 0 }) := by rw [← hwd]; exact (((((((hp.stored 9 _).stored 10 _).stored 11 _).stored 12 _).stored 13 _).stored 14 _).stored 15 _).is (by kernel_rfl)
  have hy1 : Has wd (w.heap.size + 1 + 1) 26 #[.int .i64 0, .int .i64 0, .int .u32 0, .int .u32 0, .int .u32 0, .int .u32 0, .int .i64 0, .int .u32 0, .int .u32 0, .int .u32 0, .int .u32 0, .int .u32 0, .int .u32 0, .bool false, .int .u32 0, .int .u32 0] := by rw [← hwd]; exact (((((((hz1.apart (p := ⟨w.heap.size, 9, none⟩) (by show _ ≠ w.heap.size; omega) _).apart (p := ⟨w.heap.size, 10, none⟩) (by show _ ≠ w.heap.size; omega) _).apart (p := ⟨w.heap.size, 11, none⟩) (by show _ ≠ w.heap.size; omega) _).apart (p := ⟨w.heap.size, 12, none⟩) (by show _ ≠ w.heap.size; omega) _).apart (p := ⟨w.heap.size, 13, none⟩) (by show _ ≠ w.heap.size; omega) _).apart (p := ⟨w.heap.size, 14, none⟩) (by show _ ≠ w.heap.size; omega) _).apart (p := ⟨w.heap.size, 15, none⟩) (by show _ ≠ w.heap.size; omega) _)
  have hbb : Below w.heap.size w wd := by rw [← hwd]; exact (((((((hbw.setCell (p := ⟨w.heap.size, 9, none⟩) (by show w.heap.size ≤ w.heap.size; omega) _).setCell (p := ⟨w.heap.size, 10, none⟩) (by show w.heap.size ≤ w.heap.size; omega) _).setCell (p := ⟨w.heap.size, 11, none⟩) (by show w.heap.size ≤ w.heap.size; omega) _).setCell (p := ⟨w.heap.size, 12, none⟩) (by show w.heap.size ≤ w.heap.size; omega) _).setCell (p := ⟨w.heap.size, 13, none⟩) (by show w.heap.size ≤ w.heap.size; omega) _).setCell (p := ⟨w.heap.size, 14, none⟩) (by show w.heap.size ≤ w.heap.size; omega) _).setCell (p := ⟨w.heap.size, 15, none⟩) (by show w.heap.size ≤ w.heap.size; omega) _)
  have HWD := Lib.hid hwd
  clear hwd
  have HPB := Lib.hid hpb; have HY1 := Lib.hid hy1; have HBB := Lib.hid hbb
  clear hb3 hp hz1 hbw hpb hy1 hbb
  go_upto_region 18 with fail
  rw [HWD.out]
  clear c9 c10 c11 c12 c13 c14 c15 f9 f10 f11 f12 f13 f14 f15 HWD
  have HX0 := Lib.hid (HY1.out); have HX2 := Lib.hid (has_setRow7 HY1.out (prA { p with state := 2, a := p.a2, b := p.b2, key := dk, half := false, a2 := 0, b2 := 0 }))
  have HXB := Lib.hid (below_row (g := w.heap.size + 1 + 1) HBB.out (by omega) (prA { p with state := 2, a := p.a2, b := p.b2, key := dk, half := false, a2 := 0, b2 := 0 }))
  go_wp2_with (first | (with_reducible refine wpList_load_row (o := ⟨some 61, _, _, _, _, _⟩) rfl 26 _ rfl (w.heap.size) rfl 26 (prA { p with state := 2, a := p.a2, b := p.b2, key := dk, half := false, a2 := 0, b2 := 0 }) (0, 0) _ (HPB.out).raw Try.underlying26 rfl (by kernel_rfl) ?_) | (with_reducible refine wpList_store_rowTo (o := ⟨none, _, _, _, _, _⟩) rfl 26 _ _ rfl rfl (w.heap.size + 1 + 1) (prA { p with state := 2, a := p.a2, b := p.b2, key := dk, half := false, a2 := 0, b2 := 0 }) rfl rfl 26 _ (HX0.out).raw (by kernel_rfl) (by kernel_rfl) (by kernel_rfl) ?_))
  refine bodyPost_ret (results_row_tmp9 rfl _ _ (w.heap.size + 1 + 1) 26 _ _ rfl HX2.out Try.underlying26 rfl (by kernel_rfl)) rfl ?_
  exact ⟨rfl, HXB.out⟩
end Go.Proofs.Ytekcnmimfhiblaa
