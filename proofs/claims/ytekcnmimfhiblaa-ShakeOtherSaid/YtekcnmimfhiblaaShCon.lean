/-
  linesideref10.Confirm, by contract.
-/
import Derived.Test.YtekcnmimfhiblaaShAns
import Derived.Deep.DeepCutAuto
namespace Go.Proofs.Ytekcnmimfhiblaa
open Go.RowKit
open Go.Great

set_option maxRecDepth 100000 in
set_option maxHeartbeats 4000000 in
theorem ref_confirm (p : Peer) (q : Pdu) (A : Option Addr) (c : Nat) (hpo : p.ok) (hk : q.ok) (hn : q.body.length ≤ 2000) (w : World) (hs : Sl w 1 A q.body.length c (u8s q.body)) :
    Calls Try.prog 16 #[prV p, pdV q A c] w (ShPost3 (shConfirm p q) w) := by
  obtain ⟨wa, hwa⟩ : ∃ wa, (((w.alloc (.cells (prA p) 26)).alloc (.cells (pdA q A c) 30)).alloc (.cells #[.int .i64 0, .int .i64 0, .int .u32 0, .int .u32 0, .int .u32 0, .int .u32 0, .int .i64 0, .int .u32 0, .int .u32 0, .int .u32 0, .int .u32 0, .int .u32 0, .int .u32 0, .bool false, .int .u32 0, .int .u32 0] 26)).alloc (.cells #[.int .i64 0, .int .i64 0, .int .i64 0, .int .u32 0, .int .u32 0, .slice none 0 0, .int .u64 0] 30) = wa := ⟨_, rfl⟩
  have hbwa : Below w.heap.size w wa := by rw [← hwa]; exact ((((Below.refl _ _).alloc (Nat.le_refl _) _).alloc (by simp) _).alloc (by simp; omega) _).alloc (by simp; omega) _
  have h0 : Has wa (w.heap.size) 26 (prA p) := by rw [← hwa]; exact ((((Has.made _ _ _).beside _).beside _).beside _)
  have h1 : Has wa (w.heap.size + 1) 30 (pdA q A c) := by rw [← hwa]; exact (((has_at (by simp)).beside _).beside _)
  have h2 : Has wa (w.heap.size + 1 + 1) 26 #[.int .i64 0, .int .i64 0, .int .u32 0, .int .u32 0, .int .u32 0, .int .u32 0, .int .i64 0, .int .u32 0, .int .u32 0, .int .u32 0, .int .u32 0, .int .u32 0, .int .u32 0, .bool false, .int .u32 0, .int .u32 0] := by rw [← hwa]; exact ((has_at (by simp)).beside _)
  have h3 : Has wa (w.heap.size + 1 + 1 + 1) 30 #[.int .i64 0, .int .i64 0, .int .i64 0, .int .u32 0, .int .u32 0, .slice none 0 0, .int .u64 0] := by rw [← hwa]; exact (has_at (by simp))
  have HWA := Lib.hid hwa; have HBWA := Lib.hid hbwa
  have HF := Lib.hid (fun W => ref_fits p q A c 2 hk (by omega) W)
  have HR := Lib.hid (fun W (hW : Below w.heap.size w W) => ref_right p.base hpo.1 q A c hk hn W (Sl.under hs hW))
  have HD := Lib.hid (fun W => ref_derive p.base hpo.1 p.a q.b hpo.2.1 hk.2.1 W)
  have HSEAL := Lib.hid (fun W => ref_seal p.base hpo.1 ⟨3, 0, p.train, p.a, q.b, [], 0⟩ none 0 ⟨hpo.2.1, hk.2.1, fun x hx => (by cases hx), show 0 < 18446744073709551616 by decide⟩ (Nat.zero_le _) W (sl_nil _ _))
  have HP := Lib.hid h0; have HQ := Lib.hid h1
  have HC := Lib.hid (fun W (hW : Below wa.heap.size wa W) => And.intro (h0.under hW h0.lt) (And.intro (h1.under hW h1.lt) (And.intro (h2.under hW h2.lt) (h3.under hW h3.lt))))
  clear hwa hbwa h0 h1 h2 h3
  have ea := nat_beq q.a p.a
  clear hpo hk hn hs
  by_cases hg : p.side = 0 ∧ shFits p q 2
  rotate_left
  · have hr : shConfirm p q = (peer0, pdZero, 1) := by
      unfold shConfirm; rw [if_neg hg]
    rw [hr]
    obtain ⟨b, hb⟩ : ∃ b, decide (shFits p q 2) = b := ⟨_, rfl⟩
    rw [hb] at HF
    have s0 : ((p.side != 0) = true) ∨ ((p.side != 0) = false ∧ b = false) := by
      by_cases h : p.side = 0
      · exact .inr ⟨by simp [h], by rw [← hb]; exact decide_eq_false (fun h2 => hg ⟨h, h2⟩)⟩
      · exact .inl (by simp [h])
    clear hr hb hg HSEAL HR HD ea
    unfold prV pdV at *
    go_enter Try.func16, Try.ntmps16
    go_upto_region 1 with fail
    rw [HWA.out]
    clear HWA
    go_wp2_with (first | (with_reducible refine wpList_load_row (o := ⟨some 10, _, _, _, _, _⟩) rfl 26 _ rfl (w.heap.size) rfl 26 (prA p) (0, 0) _ (HP.out).raw Try.underlying26 rfl (by kernel_rfl) ?_) | (with_reducible refine wpList_load_row (o := ⟨some 11, _, _, _, _, _⟩) rfl 30 _ rfl (w.heap.size + 1) rfl 30 (pdA q A c) (0, 0) _ (HQ.out).raw Try.underlying30 rfl (by kernel_rfl) ?_))
    refine (HF.out _).mono ?_
    rintro e w1 ⟨rfl, hb1⟩
    obtain ⟨hp, hq, hz1, hz2⟩ := HC.out w1 hb1
    have hbw := HBWA.out.trans (hb1.mono HBWA.out.size)
    have c0 : w1.cell? ⟨w.heap.size, 0, none⟩ = some (.int .i64 p.side) := (hp).cell 0
    have HZ1 := Lib.hid hz1; have HZ2 := Lib.hid hz2; have HBW := Lib.hid hbw
    clear hb1 hp hq hz1 hz2 hbw HF HP HQ HC
    rcases s0 with s0 | ⟨s0, rfl⟩
    all_goals
      obtain ⟨hx1, hx2, hx3⟩ := two_rows HZ1.out HZ2.out (by omega) (prA peer0) (pdA pdZero none 0)
      have HX0 := Lib.hid (HZ1.out); have HX1 := Lib.hid hx1; have HX2 := Lib.hid hx2; have HX3 := Lib.hid hx3
      have HXB := Lib.hid (below_row (g := w.heap.size + 1 + 1 + 1) (below_row (g := w.heap.size + 1 + 1) HBW.out (by omega) (prA peer0)) (by omega) (pdA pdZero none 0))
      clear hx1 hx2 hx3
      go_wp2_with (first | (with_reducible refine wpList_store_rowTo (o := ⟨none, _, _, _, _, _⟩) rfl 26 _ _ rfl rfl (w.heap.size + 1 + 1) (prA peer0) rfl rfl 26 _ (HX0.out).raw (by kernel_rfl) (by kernel_rfl) (by kernel_rfl) ?_) | (with_reducible refine wpList_store_rowTo (o := ⟨none, _, _, _, _, _⟩) rfl 30 _ _ rfl rfl (w.heap.size + 1 + 1 + 1) (pdA pdZero none 0) rfl rfl 30 _ (HX1.out).raw (by kernel_rfl) (by kernel_rfl) (by kernel_rfl) ?_))
      refine bodyPost_ret (results_cct9 rfl _ _ (w.heap.size + 1 + 1) (w.heap.size + 1 + 1 + 1) 26 30 _ _ _ _ rfl HX2.out Try.underlying26 rfl (by kernel_rfl) rfl HX3.out Try.underlying30 rfl (by kernel_rfl)) rfl ?_
      exact ⟨rfl, HXB.out⟩
  rw [decide_eq_true hg.2] at HF
  have s0 : (p.side != 0) = false := by simp [hg.1]
  by_cases f2 : p.state = 1
  rotate_left
  · have hr : shConfirm p q = (peer0, pdZero, 6) := by
      unfold shConfirm; rw [if_pos hg, if_neg f2]
    rw [hr]
    have s1 : (p.state != 1) = true := by simp [f2]
    clear hr hg f2 HSEAL HR HD ea
    unfold prV pdV at *
    go_enter Try.func16, Try.ntmps16
    go_upto_region 1 with fail
    rw [HWA.out]
    clear HWA
    go_wp2_with (first | (with_reducible refine wpList_load_row (o := ⟨some 10, _, _, _, _, _⟩) rfl 26 _ rfl (w.heap.size) rfl 26 (prA p) (0, 0) _ (HP.out).raw Try.underlying26 rfl (by kernel_rfl) ?_) | (with_reducible refine wpList_load_row (o := ⟨some 11, _, _, _, _, _⟩) rfl 30 _ rfl (w.heap.size + 1) rfl 30 (pdA q A c) (0, 0) _ (HQ.out).raw Try.underlying30 rfl (by kernel_rfl) ?_))
    refine (HF.out _).mono ?_
    rintro e w1 ⟨rfl, hb1⟩
    obtain ⟨hp, hq, hz1, hz2⟩ := HC.out w1 hb1
    have hbw := HBWA.out.trans (hb1.mono HBWA.out.size)
    have c0 : w1.cell? ⟨w.heap.size, 0, none⟩ = some (.int .i64 p.side) := (hp).cell 0
    have c6 : w1.cell? ⟨w.heap.size, 6, none⟩ = some (.int .i64 p.state) := (hp).cell 6
    have HZ1 := Lib.hid hz1; have HZ2 := Lib.hid hz2; have HBW := Lib.hid hbw
    clear hb1 hp hq hz1 hz2 hbw HF HP HQ HC
    obtain ⟨hx1, hx2, hx3⟩ := two_rows HZ1.out HZ2.out (by omega) (prA peer0) (pdA pdZero none 0)
    have HX0 := Lib.hid (HZ1.out); have HX1 := Lib.hid hx1; have HX2 := Lib.hid hx2; have HX3 := Lib.hid hx3
    have HXB := Lib.hid (below_row (g := w.heap.size + 1 + 1 + 1) (below_row (g := w.heap.size + 1 + 1) HBW.out (by omega) (prA peer0)) (by omega) (pdA pdZero none 0))
    clear hx1 hx2 hx3
    go_wp2_with (first | (with_reducible refine wpList_store_rowTo (o := ⟨none, _, _, _, _, _⟩) rfl 26 _ _ rfl rfl (w.heap.size + 1 + 1) (prA peer0) rfl rfl 26 _ (HX0.out).raw (by kernel_rfl) (by kernel_rfl) (by kernel_rfl) ?_) | (with_reducible refine wpList_store_rowTo (o := ⟨none, _, _, _, _, _⟩) rfl 30 _ _ rfl rfl (w.heap.size + 1 + 1 + 1) (pdA pdZero none 0) rfl rfl 30 _ (HX1.out).raw (by kernel_rfl) (by kernel_rfl) (by kernel_rfl) ?_))
    refine bodyPost_ret (results_cct9 rfl _ _ (w.heap.size + 1 + 1) (w.heap.size + 1 + 1 + 1) 26 30 _ _ _ _ rfl HX2.out Try.underlying26 rfl (by kernel_rfl) rfl HX3.out Try.underlying30 rfl (by kernel_rfl)) rfl ?_
    exact ⟨rfl, HXB.out⟩
  have s1 : (p.state != 1) = false := by simp [f2]
  by_cases f3 : q.a = p.a
  rotate_left
  · have hr : shConfirm p q = (peer0, pdZero, 110) := by
      unfold shConfirm; rw [if_pos hg, if_pos f2, if_neg f3]
    rw [hr]
    have s2 : ((q.a : Int) != (p.a : Int)) = true := by simp; omega
    clear hr hg f2 f3 HSEAL HR HD ea
    unfold prV pdV at *
    go_enter Try.func16, Try.ntmps16
    go_upto_region 1 with fail
    rw [HWA.out]
    clear HWA
    go_wp2_with (first | (with_reducible refine wpList_load_row (o := ⟨some 10, _, _, _, _, _⟩) rfl 26 _ rfl (w.heap.size) rfl 26 (prA p) (0, 0) _ (HP.out).raw Try.underlying26 rfl (by kernel_rfl) ?_) | (with_reducible refine wpList_load_row (o := ⟨some 11, _, _, _, _, _⟩) rfl 30 _ rfl (w.heap.size + 1) rfl 30 (pdA q A c) (0, 0) _ (HQ.out).raw Try.underlying30 rfl (by kernel_rfl) ?_))
    refine (HF.out _).mono ?_
    rintro e w1 ⟨rfl, hb1⟩
    obtain ⟨hp, hq, hz1, hz2⟩ := HC.out w1 hb1
    have hbw := HBWA.out.trans (hb1.mono HBWA.out.size)
    have c0 : w1.cell? ⟨w.heap.size, 0, none⟩ = some (.int .i64 p.side) := (hp).cell 0
    have c6 : w1.cell? ⟨w.heap.size, 6, none⟩ = some (.int .i64 p.state) := (hp).cell 6
    have c7 : w1.cell? ⟨w.heap.size, 7, none⟩ = some (.int .u32 (p.a : Nat)) := (hp).cell 7
    have d3 : w1.cell? ⟨w.heap.size + 1, 3, none⟩ = some (.int .u32 (q.a : Nat)) := (hq).cell 3
    have HZ1 := Lib.hid hz1; have HZ2 := Lib.hid hz2; have HBW := Lib.hid hbw
    clear hb1 hp hq hz1 hz2 hbw HF HP HQ HC
    obtain ⟨hx1, hx2, hx3⟩ := two_rows HZ1.out HZ2.out (by omega) (prA peer0) (pdA pdZero none 0)
    have HX0 := Lib.hid (HZ1.out); have HX1 := Lib.hid hx1; have HX2 := Lib.hid hx2; have HX3 := Lib.hid hx3
    have HXB := Lib.hid (below_row (g := w.heap.size + 1 + 1 + 1) (below_row (g := w.heap.size + 1 + 1) HBW.out (by omega) (prA peer0)) (by omega) (pdA pdZero none 0))
    clear hx1 hx2 hx3
    go_wp2_with (first | (with_reducible refine wpList_store_rowTo (o := ⟨none, _, _, _, _, _⟩) rfl 26 _ _ rfl rfl (w.heap.size + 1 + 1) (prA peer0) rfl rfl 26 _ (HX0.out).raw (by kernel_rfl) (by kernel_rfl) (by kernel_rfl) ?_) | (with_reducible refine wpList_store_rowTo (o := ⟨none, _, _, _, _, _⟩) rfl 30 _ _ rfl rfl (w.heap.size + 1 + 1 + 1) (pdA pdZero none 0) rfl rfl 30 _ (HX1.out).raw (by kernel_rfl) (by kernel_rfl) (by kernel_rfl) ?_))
    refine bodyPost_ret (results_cct9 rfl _ _ (w.heap.size + 1 + 1) (w.heap.size + 1 + 1 + 1) 26 30 _ _ _ _ rfl HX2.out Try.underlying26 rfl (by kernel_rfl) rfl HX3.out Try.underlying30 rfl (by kernel_rfl)) rfl ?_
    exact ⟨rfl, HXB.out⟩
  have s2 : ((q.a : Int) != (p.a : Int)) = false := by simp; omega
  by_cases f4 : pdRight p.base q
  rotate_left
  · have hr : shConfirm p q = (peer0, pdZero, 90) := by
      unfold shConfirm; rw [if_pos hg, if_pos f2, if_pos f3, if_neg f4]
    rw [hr]
    rw [decide_eq_false f4] at HR
    clear hr hg f2 f3 f4 HSEAL HD ea
    unfold prV pdV at *
    go_enter Try.func16, Try.ntmps16
    go_upto_region 1 with fail
    rw [HWA.out]
    clear HWA
    go_wp2_with (first | (with_reducible refine wpList_load_row (o := ⟨some 10, _, _, _, _, _⟩) rfl 26 _ rfl (w.heap.size) rfl 26 (prA p) (0, 0) _ (HP.out).raw Try.underlying26 rfl (by kernel_rfl) ?_) | (with_reducible refine wpList_load_row (o := ⟨some 11, _, _, _, _, _⟩) rfl 30 _ rfl (w.heap.size + 1) rfl 30 (pdA q A c) (0, 0) _ (HQ.out).raw Try.underlying30 rfl (by kernel_rfl) ?_))
    refine (HF.out _).mono ?_
    rintro e w1 ⟨rfl, hb1⟩
    obtain ⟨hp, hq, hz1, hz2⟩ := HC.out w1 hb1
    have hbw := HBWA.out.trans (hb1.mono HBWA.out.size)
    have c0 : w1.cell? ⟨w.heap.size, 0, none⟩ = some (.int .i64 p.side) := (hp).cell 0
    have c2 : w1.cell? ⟨w.heap.size, 2, none⟩ = some (.int .u32 (p.base.a : Nat)) := (hp).cell 2
    have c3 : w1.cell? ⟨w.heap.size, 3, none⟩ = some (.int .u32 (p.base.b : Nat)) := (hp).cell 3
    have c4 : w1.cell? ⟨w.heap.size, 4, none⟩ = some (.int .u32 (p.base.c : Nat)) := (hp).cell 4
    have c5 : w1.cell? ⟨w.heap.size, 5, none⟩ = some (.int .u32 (p.base.d : Nat)) := (hp).cell 5
    have c6 : w1.cell? ⟨w.heap.size, 6, none⟩ = some (.int .i64 p.state) := (hp).cell 6
    have c7 : w1.cell? ⟨w.heap.size, 7, none⟩ = some (.int .u32 (p.a : Nat)) := (hp).cell 7
    have d3 : w1.cell? ⟨w.heap.size + 1, 3, none⟩ = some (.int .u32 (q.a : Nat)) := (hq).cell 3
    have HQ1 := Lib.hid hq; have HB1 := Lib.hid hb1; have HBW := Lib.hid hbw
    have HR1 := Lib.hid (HR.out w1 hbw)
    unfold keyV keyA at HR1
    clear hb1 hp hq hz1 hz2 hbw HF HP HQ HR
    go_wp2_with (with_reducible refine wpList_load_row (o := ⟨some 36, _, _, _, _, _⟩) rfl 30 _ rfl (w.heap.size + 1) rfl 30 (pdA q A c) (0, 0) _ (HQ1.out).raw Try.underlying30 rfl (by kernel_rfl) ?_)
    refine HR1.out.mono ?_
    rintro e w2 ⟨rfl, hb2⟩
    obtain ⟨_, _, hz1, hz2⟩ := HC.out w2 (HB1.out.trans (hb2.mono HB1.out.size))
    have HZ1 := Lib.hid hz1; have HZ2 := Lib.hid hz2; have HBW2 := Lib.hid (HBW.out.trans (hb2.mono HBW.out.size))
    clear hb2 hz1 hz2 c0 c2 c3 c4 c5 c6 c7 d3 HQ1 HB1 HR1 HC
    obtain ⟨hx1, hx2, hx3⟩ := two_rows HZ1.out HZ2.out (by omega) (prA peer0) (pdA pdZero none 0)
    have HX0 := Lib.hid (HZ1.out); have HX1 := Lib.hid hx1; have HX2 := Lib.hid hx2; have HX3 := Lib.hid hx3
    have HXB := Lib.hid (below_row (g := w.heap.size + 1 + 1 + 1) (below_row (g := w.heap.size + 1 + 1) HBW2.out (by omega) (prA peer0)) (by omega) (pdA pdZero none 0))
    clear hx1 hx2 hx3
    go_wp2_with (first | (with_reducible refine wpList_store_rowTo (o := ⟨none, _, _, _, _, _⟩) rfl 26 _ _ rfl rfl (w.heap.size + 1 + 1) (prA peer0) rfl rfl 26 _ (HX0.out).raw (by kernel_rfl) (by kernel_rfl) (by kernel_rfl) ?_) | (with_reducible refine wpList_store_rowTo (o := ⟨none, _, _, _, _, _⟩) rfl 30 _ _ rfl rfl (w.heap.size + 1 + 1 + 1) (pdA pdZero none 0) rfl rfl 30 _ (HX1.out).raw (by kernel_rfl) (by kernel_rfl) (by kernel_rfl) ?_))
    refine bodyPost_ret (results_cct9 rfl _ _ (w.heap.size + 1 + 1) (w.heap.size + 1 + 1 + 1) 26 30 _ _ _ _ rfl HX2.out Try.underlying26 rfl (by kernel_rfl) rfl HX3.out Try.underlying30 rfl (by kernel_rfl)) rfl ?_
    exact ⟨rfl, HXB.out⟩
  have hr : shConfirm p q = ({ p with state := 2, b := q.b, key := deriveF p.base p.a q.b }, pdSeal p.base ⟨3, 0, p.train, p.a, q.b, [], 0⟩, 0) := by
    unfold shConfirm; rw [if_pos hg, if_pos f2, if_pos f3, if_pos f4]
  rw [hr]
  rw [decide_eq_true f4] at HR
  clear hr hg f2 f3 f4 ea
  unfold prV pdV at *
  go_enter Try.func16, Try.ntmps16
  go_upto_region 1 with fail
  rw [HWA.out]
  clear HWA
  go_wp2_with (first | (with_reducible refine wpList_load_row (o := ⟨some 10, _, _, _, _, _⟩) rfl 26 _ rfl (w.heap.size) rfl 26 (prA p) (0, 0) _ (HP.out).raw Try.underlying26 rfl (by kernel_rfl) ?_) | (with_reducible refine wpList_load_row (o := ⟨some 11, _, _, _, _, _⟩) rfl 30 _ rfl (w.heap.size + 1) rfl 30 (pdA q A c) (0, 0) _ (HQ.out).raw Try.underlying30 rfl (by kernel_rfl) ?_))
  refine (HF.out _).mono ?_
  rintro e w1 ⟨rfl, hb1⟩
  obtain ⟨hp, hq, hz1, hz2⟩ := HC.out w1 hb1
  have hbw := HBWA.out.trans (hb1.mono HBWA.out.size)
  have c0 : w1.cell? ⟨w.heap.size, 0, none⟩ = some (.int .i64 p.side) := (hp).cell 0
  have c2 : w1.cell? ⟨w.heap.size, 2, none⟩ = some (.int .u32 (p.base.a : Nat)) := (hp).cell 2
  have c3 : w1.cell? ⟨w.heap.size, 3, none⟩ = some (.int .u32 (p.base.b : Nat)) := (hp).cell 3
  have c4 : w1.cell? ⟨w.heap.size, 4, none⟩ = some (.int .u32 (p.base.c : Nat)) := (hp).cell 4
  have c5 : w1.cell? ⟨w.heap.size, 5, none⟩ = some (.int .u32 (p.base.d : Nat)) := (hp).cell 5
  have c6 : w1.cell? ⟨w.heap.size, 6, none⟩ = some (.int .i64 p.state) := (hp).cell 6
  have c7 : w1.cell? ⟨w.heap.size, 7, none⟩ = some (.int .u32 (p.a : Nat)) := (hp).cell 7
  have d3 : w1.cell? ⟨w.heap.size + 1, 3, none⟩ = some (.int .u32 (q.a : Nat)) := (hq).cell 3
  have HQ1 := Lib.hid hq; have HB1 := Lib.hid hb1; have HBW := Lib.hid hbw
  have HR1 := Lib.hid (HR.out w1 hbw)
  unfold keyV keyA at HR1
  clear hb1 hp hq hz1 hz2 hbw HF HP HQ HR
  go_wp2_with (with_reducible refine wpList_load_row (o := ⟨some 36, _, _, _, _, _⟩) rfl 30 _ rfl (w.heap.size + 1) rfl 30 (pdA q A c) (0, 0) _ (HQ1.out).raw Try.underlying30 rfl (by kernel_rfl) ?_)
  refine HR1.out.mono ?_
  rintro e w2 ⟨rfl, hb2⟩
  obtain ⟨hp, hq, hz1, hz2⟩ := HC.out w2 (HB1.out.trans (hb2.mono HB1.out.size))
  have hbw := HBW.out.trans (hb2.mono HBW.out.size)
  clear c0 c2 c3 c4 c5 c6 c7 d3 HQ1 HB1 HR1 HC HBW
  have c2 : w2.cell? ⟨w.heap.size, 2, none⟩ = some (.int .u32 (p.base.a : Nat)) := (hp).cell 2
  have c3 : w2.cell? ⟨w.heap.size, 3, none⟩ = some (.int .u32 (p.base.b : Nat)) := (hp).cell 3
  have c4 : w2.cell? ⟨w.heap.size, 4, none⟩ = some (.int .u32 (p.base.c : Nat)) := (hp).cell 4
  have c5 : w2.cell? ⟨w.heap.size, 5, none⟩ = some (.int .u32 (p.base.d : Nat)) := (hp).cell 5
  have c6 : w2.cell? ⟨w.heap.size, 6, none⟩ = some (.int .i64 p.state) := (hp).cell 6
  have c7 : w2.cell? ⟨w.heap.size, 7, none⟩ = some (.int .u32 (p.a : Nat)) := (hp).cell 7
  have c8 : w2.cell? ⟨w.heap.size, 8, none⟩ = some (.int .u32 (p.b : Nat)) := (hp).cell 8
  have f6 : w2.frozen? ⟨w.heap.size, 6, none⟩ = false := (hp).thaw 6
  have f8 : w2.frozen? ⟨w.heap.size, 8, none⟩ = false := (hp).thaw 8
  have d4 : w2.cell? ⟨w.heap.size + 1, 4, none⟩ = some (.int .u32 (q.b : Nat)) := (hq).cell 4
  obtain ⟨wb, hwb⟩ : ∃ wb, (w2.setCell ⟨w.heap.size, 6, none⟩ (.int .i64 2)).setCell ⟨w.heap.size, 8, none⟩ (.int .u32 (q.b : Nat)) = wb := ⟨_, rfl⟩
  have hpb : Has wb (w.heap.size) 26 (prA { p with state := 2, b := q.b }) := by rw [← hwb]; exact ((hp.stored 6 _).stored 8 _).is (by kernel_rfl)
  have hqb : Has wb (w.heap.size + 1) 30 (pdA q A c) := by rw [← hwb]; exact ((hq.apart (p := ⟨w.heap.size, 6, none⟩) (by show _ ≠ w.heap.size; omega) _).apart (p := ⟨w.heap.size, 8, none⟩) (by show _ ≠ w.heap.size; omega) _)
  have hy1 : Has wb (w.heap.size + 1 + 1) 26 #[.int .i64 0, .int .i64 0, .int .u32 0, .int .u32 0, .int .u32 0, .int .u32 0, .int .i64 0, .int .u32 0, .int .u32 0, .int .u32 0, .int .u32 0, .int .u32 0, .int .u32 0, .bool false, .int .u32 0, .int .u32 0] := by rw [← hwb]; exact ((hz1.apart (p := ⟨w.heap.size, 6, none⟩) (by show _ ≠ w.heap.size; omega) _).apart (p := ⟨w.heap.size, 8, none⟩) (by show _ ≠ w.heap.size; omega) _)
  have hy2 : Has wb (w.heap.size + 1 + 1 + 1) 30 #[.int .i64 0, .int .i64 0, .int .i64 0, .int .u32 0, .int .u32 0, .slice none 0 0, .int .u64 0] := by rw [← hwb]; exact ((hz2.apart (p := ⟨w.heap.size, 6, none⟩) (by show _ ≠ w.heap.size; omega) _).apart (p := ⟨w.heap.size, 8, none⟩) (by show _ ≠ w.heap.size; omega) _)
  have hbb : Below w.heap.size w wb := by rw [← hwb]; exact ((hbw.setCell (p := ⟨w.heap.size, 6, none⟩) (by show w.heap.size ≤ w.heap.size; omega) _).setCell (p := ⟨w.heap.size, 8, none⟩) (by show w.heap.size ≤ w.heap.size; omega) _)
  have HWB := Lib.hid hwb
  clear hwb
  have b2 : wb.cell? ⟨w.heap.size, 2, none⟩ = some (.int .u32 (p.base.a : Nat)) := (hpb).cell 2
  have b3 : wb.cell? ⟨w.heap.size, 3, none⟩ = some (.int .u32 (p.base.b : Nat)) := (hpb).cell 3
  have b4 : wb.cell? ⟨w.heap.size, 4, none⟩ = some (.int .u32 (p.base.c : Nat)) := (hpb).cell 4
  have b5 : wb.cell? ⟨w.heap.size, 5, none⟩ = some (.int .u32 (p.base.d : Nat)) := (hpb).cell 5
  have b7 : wb.cell? ⟨w.heap.size, 7, none⟩ = some (.int .u32 (p.a : Nat)) := (hpb).cell 7
  have b8 : wb.cell? ⟨w.heap.size, 8, none⟩ = some (.int .u32 (q.b : Nat)) := (hpb).cell 8
  have HPM := Lib.hid hpb; have HYM1 := Lib.hid hy1; have HYM2 := Lib.hid hy2; have HBM := Lib.hid hbb
  have HD1 := Lib.hid (HD.out wb)
  unfold keyV keyA at HD1
  clear hb2 hp hq hz1 hz2 hbw hpb hqb hy1 hy2 hbb HD
  go_upto_region 13 with fail
  rw [HWB.out]
  clear c2 c3 c4 c5 c6 c7 c8 f6 f8 d4 HWB
  go_wp2_with fail
  refine HD1.out.mono ?_
  rintro e w3 ⟨rfl, hb3⟩
  have hp := HPM.out.under hb3 HPM.out.lt
  have hz1 := HYM1.out.under hb3 HYM1.out.lt
  have hz2 := HYM2.out.under hb3 HYM2.out.lt
  have hbw := HBM.out.trans (hb3.mono HBM.out.size)
  generalize hdk : deriveF p.base p.a q.b = dk at *
  clear b2 b3 b4 b5 b7 b8 HPM HYM1 HYM2 HBM HD1
  have c9 : w3.cell? ⟨w.heap.size, 9, none⟩ = some (.int .u32 (p.key.a : Nat)) := (hp).cell 9
  have c10 : w3.cell? ⟨w.heap.size, 10, none⟩ = some (.int .u32 (p.key.b : Nat)) := (hp).cell 10
  have c11 : w3.cell? ⟨w.heap.size, 11, none⟩ = some (.int .u32 (p.key.c : Nat)) := (hp).cell 11
  have c12 : w3.cell? ⟨w.heap.size, 12, none⟩ = some (.int .u32 (p.key.d : Nat)) := (hp).cell 12
  have f9 : w3.frozen? ⟨w.heap.size, 9, none⟩ = false := (hp).thaw 9
  have f10 : w3.frozen? ⟨w.heap.size, 10, none⟩ = false := (hp).thaw 10
  have f11 : w3.frozen? ⟨w.heap.size, 11, none⟩ = false := (hp).thaw 11
  have f12 : w3.frozen? ⟨w.heap.size, 12, none⟩ = false := (hp).thaw 12
  obtain ⟨wd, hwd⟩ : ∃ wd, (((w3.setCell ⟨w.heap.size, 9, none⟩ (.int .u32 (dk.a : Nat))).setCell ⟨w.heap.size, 10, none⟩ (.int .u32 (dk.b : Nat))).setCell ⟨w.heap.size, 11, none⟩ (.int .u32 (dk.c : Nat))).setCell ⟨w.heap.size, 12, none⟩ (.int .u32 (dk.d : Nat)) = wd := ⟨_, rfl⟩
  have hpb : Has wd (w.heap.size) 26 (prA { p with state := 2, b := q.b, key := dk }) := by rw [← hwd]; exact ((((hp.stored 9 _).stored 10 _).stored 11 _).stored 12 _).is (by kernel_rfl)
  have hy1 : Has wd (w.heap.size + 1 + 1) 26 #[.int .i64 0, .int .i64 0, .int .u32 0, .int .u32 0, .int .u32 0, .int .u32 0, .int .i64 0, .int .u32 0, .int .u32 0, .int .u32 0, .int .u32 0, .int .u32 0, .int .u32 0, .bool false, .int .u32 0, .int .u32 0] := by rw [← hwd]; exact ((((hz1.apart (p := ⟨w.heap.size, 9, none⟩) (by show _ ≠ w.heap.size; omega) _).apart (p := ⟨w.heap.size, 10, none⟩) (by show _ ≠ w.heap.size; omega) _).apart (p := ⟨w.heap.size, 11, none⟩) (by show _ ≠ w.heap.size; omega) _).apart (p := ⟨w.heap.size, 12, none⟩) (by show _ ≠ w.heap.size; omega) _)
  have hy2 : Has wd (w.heap.size + 1 + 1 + 1) 30 #[.int .i64 0, .int .i64 0, .int .i64 0, .int .u32 0, .int .u32 0, .slice none 0 0, .int .u64 0] := by rw [← hwd]; exact ((((hz2.apart (p := ⟨w.heap.size, 9, none⟩) (by show _ ≠ w.heap.size; omega) _).apart (p := ⟨w.heap.size, 10, none⟩) (by show _ ≠ w.heap.size; omega) _).apart (p := ⟨w.heap.size, 11, none⟩) (by show _ ≠ w.heap.size; omega) _).apart (p := ⟨w.heap.size, 12, none⟩) (by show _ ≠ w.heap.size; omega) _)
  have hbb : Below w.heap.size w wd := by rw [← hwd]; exact ((((hbw.setCell (p := ⟨w.heap.size, 9, none⟩) (by show w.heap.size ≤ w.heap.size; omega) _).setCell (p := ⟨w.heap.size, 10, none⟩) (by show w.heap.size ≤ w.heap.size; omega) _).setCell (p := ⟨w.heap.size, 11, none⟩) (by show w.heap.size ≤ w.heap.size; omega) _).setCell (p := ⟨w.heap.size, 12, none⟩) (by show w.heap.size ≤ w.heap.size; omega) _)
  have HWD := Lib.hid hwd
  clear hwd
  have b1 : wd.cell? ⟨w.heap.size, 1, none⟩ = some (.int .i64 p.train) := (hpb).cell 1
  have b7 : wd.cell? ⟨w.heap.size, 7, none⟩ = some (.int .u32 (p.a : Nat)) := (hpb).cell 7
  have b8 : wd.cell? ⟨w.heap.size, 8, none⟩ = some (.int .u32 (q.b : Nat)) := (hpb).cell 8
  obtain ⟨wc, hwc⟩ : ∃ wc, wd.alloc (.cells (pdA ⟨3, 0, p.train, p.a, q.b, [], 0⟩ none 0) 30) = wc := ⟨_, rfl⟩
  have hbc : Below wd.heap.size wd wc := by rw [← hwc]; exact (Below.refl _ _).alloc (Nat.le_refl _) _
  obtain ⟨gx, hgx⟩ : ∃ gx, wd.heap.size = gx := ⟨_, rfl⟩
  have hxc : Has wc gx 30 (pdA ⟨3, 0, p.train, p.a, q.b, [], 0⟩ none 0) := by rw [← hwc, ← hgx]; exact Has.made _ _ _
  have hgl : w.heap.size + 1 + 1 + 1 < gx := by rw [← hgx]; exact hy2.lt
  have HPB := Lib.hid (hpb.under hbc hpb.lt); have HY1 := Lib.hid (hy1.under hbc hy1.lt); have HY2 := Lib.hid (hy2.under hbc hy2.lt); have HBB := Lib.hid (hbb.trans (hbc.mono hbb.size)); have HX := Lib.hid hxc
  have HWC := Lib.hid hwc; have HGX := Lib.hid hgx; have HDK := Lib.hid hdk
  clear hb3 hp hz1 hz2 hbw hpb hy1 hy2 hbb hwc hbc hgx hxc hdk
  go_upto_region 14 with fail
  rw [HWD.out]
  clear c9 c10 c11 c12 f9 f10 f11 f12 HWD
  go_upto_region 15 with fail
  rw [HGX.out]
  rw [show wd.alloc (.cells #[.int .i64 3, .int .i64 0, .int .i64 p.train, .int .u32 (p.a : Nat), .int .u32 (q.b : Nat), .slice none 0 0, .int .u64 0] 30) = wc from HWC.out]
  clear b1 b7 b8 HWC HGX
  go_cut [6] (fun sx wx => sx = .int .i64 0 ∧ Has wx (w.heap.size) 26 (prA { p with state := 2, b := q.b, key := dk }) ∧ Has wx (w.heap.size + 1 + 1) 26 (prA { p with state := 2, b := q.b, key := dk }) ∧ Has wx (w.heap.size + 1 + 1 + 1) 30 (pdA (pdSeal p.base ⟨3, 0, p.train, p.a, q.b, [], 0⟩) none 0) ∧ Has wx (gx) 30 (pdA ⟨3, 0, p.train, p.a, q.b, [], 0⟩ none 0) ∧ Below w.heap.size w wx)
  case first =>
    refine wp_region_held_drew (S := (fun W_ => Has W_ (w.heap.size) 26 (prA { p with state := 2, b := q.b, key := dk }) ∧ (∃ o_ : Array Value, Has W_ (w.heap.size + 1 + 1) 26 o_ ∧ o_.size = 16) ∧ (∃ o_ : Array Value, Has W_ (w.heap.size + 1 + 1 + 1) 30 o_ ∧ o_.size = 7) ∧ Has W_ (gx) 30 (pdA ⟨3, 0, p.train, p.a, q.b, [], 0⟩ none 0) ∧ Below w.heap.size w W_)) (by kernel_rfl) ?_ (fun hHeld => ?_)
    · exact ⟨HPB.out.draw, ⟨_, HY1.out.draw, by kernel_rfl⟩, ⟨_, HY2.out.draw, by kernel_rfl⟩, HX.out.draw, below_dr HBB.out⟩
    refine wpAnyH_take (i := 0) (oi := ⟨some 61, _, _, _, _, _⟩) (v := .agg (prA { p with state := 2, b := q.b, key := dk })) rfl (by kernel_rfl) (by kernel_rfl) (by kernel_rfl) (fun _ _ _ h => h) (yields_load_row9 rfl 26 _ rfl (w.heap.size) rfl 26 (prA { p with state := 2, b := q.b, key := dk }) _ (fun _ ⟨h_, _, _, _, _⟩ => h_) Try.underlying26 rfl (by kernel_rfl) (by rfl)) (by assumption) ?_
    simp only [Act.put, List.setIfInBounds_toArray, List.set_cons_zero, List.set_cons_succ]
    refine wpAnyH_take (i := 1) (oi := ⟨some 62, _, _, _, _, _⟩) (v := ?_) rfl (by kernel_rfl) (by kernel_rfl) (by kernel_rfl) (fun _ _ _ h => h) (Or.inl ⟨by rfl, ?_⟩) (by assumption) ?_
    rotate_left
    · intro w_ hSw; (try dsimp only at hSw); go_simp <;> with_reducible rfl
    simp only [Act.put, List.setIfInBounds_toArray, List.set_cons_zero, List.set_cons_succ]
    refine wpAnyH_take (i := 2) (oi := ⟨some 63, _, _, _, _, _⟩) (v := ?_) rfl (by kernel_rfl) (by kernel_rfl) (by kernel_rfl) (fun _ _ _ h => h) (Or.inl ⟨by rfl, ?_⟩) (by assumption) ?_
    rotate_left
    · intro w_ hSw; (try dsimp only at hSw); have hx2 := hSw.1.cell 2; simp only [prA] at hx2; have hx3 := hSw.1.cell 3; simp only [prA] at hx3; have hx4 := hSw.1.cell 4; simp only [prA] at hx4; have hx5 := hSw.1.cell 5; simp only [prA] at hx5; go_simp <;> with_reducible rfl
    simp only [Act.put, List.setIfInBounds_toArray, List.set_cons_zero, List.set_cons_succ]
    refine wpAnyH_take (i := 3) (oi := ⟨some 64, _, _, _, _, _⟩) (v := .agg (pdA ⟨3, 0, p.train, p.a, q.b, [], 0⟩ none 0)) rfl (by kernel_rfl) (by kernel_rfl) (by kernel_rfl) (fun _ _ _ h => h) (yields_load_row9 rfl 30 _ rfl (gx) rfl 30 (pdA ⟨3, 0, p.train, p.a, q.b, [], 0⟩ none 0) _ (fun _ ⟨_, _, _, h_, _⟩ => h_) Try.underlying30 rfl (by kernel_rfl) (by rfl)) (by assumption) ?_
    simp only [Act.put, List.setIfInBounds_toArray, List.set_cons_zero, List.set_cons_succ]
    refine wpAnyH_ready (rs := [4]) (by kernel_rfl) (by simp) ?_
    refine AllReadyH.cons (o := ⟨some 65, _, _, _, _, _⟩) rfl (fun K hK => ?_) ?_
    · go_simp
      obtain ⟨s0, s1, s2, s3, s4⟩ := hHeld
      refine (HSEAL.out _).mono ?_
      rintro e vs ⟨rfl, hbs⟩
      go_wp2_with fail
      refine hK.out _ _ ?_ (fun hHeld => ?_)
      · exact ⟨s0.under hbs s0.lt, (let ⟨o_, h_, e_⟩ := s1; ⟨o_, h_.under hbs h_.lt, e_⟩), (let ⟨o_, h_, e_⟩ := s2; ⟨o_, h_.under hbs h_.lt, e_⟩), s3.under hbs s3.lt, s4.trans (hbs.mono s4.size)⟩
      clear hK K s0 s1 s2 s3 s4
      try simp only [Act.put, List.setIfInBounds_toArray, List.set_cons_zero, List.set_cons_succ]
      refine wpAnyH_ready (rs := [5]) (by kernel_rfl) (by simp) ?_
      refine AllReadyH.cons (o := ⟨none, _, _, _, _, _⟩) rfl (fun K hK => ?_) ?_
      · rw [if_pos (by rfl)]
        obtain ⟨s0, s1, s2, s3, s4⟩ := hHeld
        obtain ⟨o_, h_, e_⟩ := s1
        refine wp_store_row 26 _ _ rfl (w.heap.size + 1 + 1) (prA { p with state := 2, b := q.b, key := dk }) (by rfl) (by rfl) 26 o_ h_.raw (by kernel_rfl) e_ (by kernel_rfl) ?_
        refine hK.out _ _ ?_ (fun hHeld => ?_)
        · exact ⟨has_setRow_other7 s0 (by omega) _, ⟨_, has_setRow7 h_ (prA { p with state := 2, b := q.b, key := dk }), by kernel_rfl⟩, (let ⟨o_, h_, e_⟩ := s2; ⟨o_, has_setRow_other7 h_ (by omega) _, e_⟩), has_setRow_other7 s3 (by omega) _, below_row s4 (by omega) _⟩
        refine wpAnyH_more (T := (fun W_ => Has W_ (w.heap.size) 26 (prA { p with state := 2, b := q.b, key := dk }) ∧ Has W_ (w.heap.size + 1 + 1) 26 (prA { p with state := 2, b := q.b, key := dk }) ∧ (∃ o_ : Array Value, Has W_ (w.heap.size + 1 + 1 + 1) 30 o_ ∧ o_.size = 7) ∧ Has W_ (gx) 30 (pdA ⟨3, 0, p.train, p.a, q.b, [], 0⟩ none 0) ∧ Below w.heap.size w W_)) (fun _ ⟨s0, s1, s2, s3, s4⟩ => ⟨s0, ⟨_, s1, by kernel_rfl⟩, s2, s3, s4⟩) ?_
        have hHeld2 : (fun W_ => Has W_ (w.heap.size) 26 (prA { p with state := 2, b := q.b, key := dk }) ∧ Has W_ (w.heap.size + 1 + 1) 26 (prA { p with state := 2, b := q.b, key := dk }) ∧ (∃ o_ : Array Value, Has W_ (w.heap.size + 1 + 1 + 1) 30 o_ ∧ o_.size = 7) ∧ Has W_ (gx) 30 (pdA ⟨3, 0, p.train, p.a, q.b, [], 0⟩ none 0) ∧ Below w.heap.size w W_) _ := ⟨has_setRow_other7 s0 (by omega) _, has_setRow7 h_ (prA { p with state := 2, b := q.b, key := dk }), (let ⟨o_, h_, e_⟩ := s2; ⟨o_, has_setRow_other7 h_ (by omega) _, e_⟩), has_setRow_other7 s3 (by omega) _, below_row s4 (by omega) _⟩
        clear hHeld
        have hHeld := hHeld2
        clear hHeld2 hK K h_ e_ s0 s2 s3 s4
        try simp only [Act.put]
        refine wpAnyH_ready (rs := [6]) (by kernel_rfl) (by simp) ?_
        refine AllReadyH.cons (o := ⟨none, _, _, _, _, _⟩) rfl (fun K hK => ?_) ?_
        · rw [if_pos (by rfl)]
          obtain ⟨s0, s1, s2, s3, s4⟩ := hHeld
          obtain ⟨o_, h_, e_⟩ := s2
          refine wp_store_row 30 _ _ rfl (w.heap.size + 1 + 1 + 1) (pdA (pdSeal p.base ⟨3, 0, p.train, p.a, q.b, [], 0⟩) none 0) (by rfl) (by rfl) 30 o_ h_.raw (by kernel_rfl) e_ (by kernel_rfl) ?_
          refine hK.out _ _ ?_ (fun hHeld => ?_)
          · exact ⟨has_setRow_other7 s0 (by omega) _, has_setRow_other7 s1 (by omega) _, ⟨_, has_setRow7 h_ (pdA (pdSeal p.base ⟨3, 0, p.train, p.a, q.b, [], 0⟩) none 0), by kernel_rfl⟩, has_setRow_other7 s3 (by omega) _, below_row s4 (by omega) _⟩
          refine wpAnyH_more (T := (fun W_ => Has W_ (w.heap.size) 26 (prA { p with state := 2, b := q.b, key := dk }) ∧ Has W_ (w.heap.size + 1 + 1) 26 (prA { p with state := 2, b := q.b, key := dk }) ∧ Has W_ (w.heap.size + 1 + 1 + 1) 30 (pdA (pdSeal p.base ⟨3, 0, p.train, p.a, q.b, [], 0⟩) none 0) ∧ Has W_ (gx) 30 (pdA ⟨3, 0, p.train, p.a, q.b, [], 0⟩ none 0) ∧ Below w.heap.size w W_)) (fun _ ⟨s0, s1, s2, s3, s4⟩ => ⟨s0, s1, ⟨_, s2, by kernel_rfl⟩, s3, s4⟩) ?_
          have hHeld2 : (fun W_ => Has W_ (w.heap.size) 26 (prA { p with state := 2, b := q.b, key := dk }) ∧ Has W_ (w.heap.size + 1 + 1) 26 (prA { p with state := 2, b := q.b, key := dk }) ∧ Has W_ (w.heap.size + 1 + 1 + 1) 30 (pdA (pdSeal p.base ⟨3, 0, p.train, p.a, q.b, [], 0⟩) none 0) ∧ Has W_ (gx) 30 (pdA ⟨3, 0, p.train, p.a, q.b, [], 0⟩ none 0) ∧ Below w.heap.size w W_) _ := ⟨has_setRow_other7 s0 (by omega) _, has_setRow_other7 s1 (by omega) _, has_setRow7 h_ (pdA (pdSeal p.base ⟨3, 0, p.train, p.a, q.b, [], 0⟩) none 0), has_setRow_other7 s3 (by omega) _, below_row s4 (by omega) _⟩
          clear hHeld
          have hHeld := hHeld2
          clear hHeld2 hK K h_ e_ s0 s1 s3 s4
          try simp only [Act.put]
          refine wpAnyH_take (i := 7) (oi := ⟨some 6, _, _, _, _, _⟩) (v := ?_) rfl (by kernel_rfl) (by kernel_rfl) (by kernel_rfl) (fun _ _ _ h => h) (Or.inl ⟨by rfl, ?_⟩) (by assumption) ?_
          rotate_left
          · intro w_ hSw; (try dsimp only at hSw); go_simp <;> with_reducible rfl
          simp only [Act.put, List.setIfInBounds_toArray, List.set_cons_zero, List.set_cons_succ]
          refine wpAnyH_done (by kernel_rfl) ?_ _
          go_wp2_with fail
          go_meet
          exact ⟨rfl, hHeld⟩
        exact AllReadyH.nil
      exact AllReadyH.nil
    exact AllReadyH.nil
  case rest =>
    obtain ⟨rfl, _, hy1, hy2, _, hyb⟩ := hcut
    have HZ1 := Lib.hid hy1; have HZ2 := Lib.hid hy2; have HZB := Lib.hid hyb
    clear hy1 hy2 hyb
    go_wp2
    refine bodyPost_ret (results_cct9 rfl _ _ (w.heap.size + 1 + 1) (w.heap.size + 1 + 1 + 1) 26 30 _ _ _ _ rfl HZ1.out Try.underlying26 rfl (by kernel_rfl) rfl HZ2.out Try.underlying30 rfl (by kernel_rfl)) rfl ?_
    exact ⟨rfl, HZB.out⟩
end Go.Proofs.Ytekcnmimfhiblaa
