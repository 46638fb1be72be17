/-
  linesideref10, by contract: fits, came.
-/
import Derived.Test.YtekcnmimfhiblaaShRef
namespace Go.Proofs.Ytekcnmimfhiblaa
open Go.RowKit
open Go.Great

theorem fits_dec (p : Peer) (q : Pdu) (k : Int) : decide (shFits p q k) = (decide (pdMay q) && (q.kind == k && (q.dir == fromD p && q.train == p.train))) := by
  exact (bool_dec (by simp [shFits])).symm
set_option maxRecDepth 100000 in
set_option maxHeartbeats 4000000 in
theorem ref_fits (p : Peer) (q : Pdu) (A : Option Addr) (c : Nat) (k : Int) (hk : q.ok) (hn : q.body.length ≤ 100000) (w : World) :
    Calls Try.prog 34 #[prV p, pdV q A c, .int .i64 k] w fun e w' => e = .returned (.bool (decide (shFits p q k))) ∧ Below w.heap.size w w' := by
  rw [fits_dec]
  obtain ⟨wa, hwa⟩ : ∃ wa, (w.alloc (.cells (prA p) 26)).alloc (.cells (pdA q A c) 30) = wa := ⟨_, rfl⟩
  have hbwa : Below w.heap.size w wa := by rw [← hwa]; exact ((Below.refl _ _).alloc (Nat.le_refl _) _).alloc (by simp) _
  have h0 : Has wa (w.heap.size) 26 (prA p) := by rw [← hwa]; exact ((Has.made _ _ _).beside _)
  have h1 : Has wa (w.heap.size + 1) 30 (pdA q A c) := by rw [← hwa]; exact (has_at (by simp))
  have HWA := Lib.hid hwa; have HBWA := Lib.hid hbwa
  have HM := Lib.hid (fun W => ref_may q A c hk hn W)
  have HQ := Lib.hid h1
  have HC := Lib.hid (fun W (hW : Below wa.heap.size wa W) => And.intro (h0.under hW h0.lt) (h1.under hW h1.lt))
  obtain ⟨d, hd⟩ : ∃ d, fromD p = d := ⟨_, rfl⟩
  have hds : (p.side = 0 ∧ d = 1) ∨ (p.side ≠ 0 ∧ d = 0) := by
    by_cases h : p.side = 0
    · exact .inl ⟨h, by rw [← hd]; unfold fromD; rw [if_pos h]⟩
    · exact .inr ⟨h, by rw [← hd]; unfold fromD; rw [if_neg h]⟩
  rw [hd]
  obtain ⟨b0, e0⟩ : ∃ b0, decide (pdMay q) = b0 := ⟨_, rfl⟩
  obtain ⟨b1, e1⟩ : ∃ b1, (q.kind == k) = b1 := ⟨_, rfl⟩
  obtain ⟨b2, e2⟩ : ∃ b2, (q.dir == d) = b2 := ⟨_, rfl⟩
  obtain ⟨b3, e3⟩ : ∃ b3, (q.train == p.train) = b3 := ⟨_, rfl⟩
  rw [e0] at HM
  rw [e0, e1, e2, e3]
  clear e0 hwa hbwa h0 h1 hd hk hn
  unfold prV pdV
  go_enter Try.func34, Try.ntmps34
  go_upto_region 1 with fail
  rw [HWA.out]
  go_wp2_with (with_reducible refine wpList_load_row (o := ⟨some 9, _, _, _, _, _⟩) rfl 30 _ rfl (w.heap.size + 1) rfl 30 (pdA q A c) (0, 0) _ (HQ.out).raw Try.underlying30 rfl (by kernel_rfl) ?_)
  refine (HM.out _).mono ?_
  rintro e w1 ⟨rfl, hb1⟩
  obtain ⟨hp, hq⟩ := HC.out w1 hb1
  have c0 : w1.cell? ⟨w.heap.size, 0, none⟩ = some (.int .i64 p.side) := (hp).cell 0
  have c1 : w1.cell? ⟨w.heap.size, 1, none⟩ = some (.int .i64 p.train) := (hp).cell 1
  have d0 : w1.cell? ⟨w.heap.size + 1, 0, none⟩ = some (.int .i64 q.kind) := (hq).cell 0
  have d1 : w1.cell? ⟨w.heap.size + 1, 1, none⟩ = some (.int .i64 q.dir) := (hq).cell 1
  have d2 : w1.cell? ⟨w.heap.size + 1, 2, none⟩ = some (.int .i64 q.train) := (hq).cell 2
  have HB1 := Lib.hid (HBWA.out.trans (hb1.mono HBWA.out.size))
  clear hp hq hb1 HM HQ HC HWA
  rcases hds with ⟨hs, rfl⟩ | ⟨hs, rfl⟩
  · have s0 : (p.side != 0) = false := by simp [hs]
    clear hs
    cases b0 with
    | false =>
      go_wp2
      go_ret
      exact ⟨rfl, HB1.out⟩
    | true =>
      cases b1 with
      | false =>
        go_wp2
        go_ret
        exact ⟨rfl, HB1.out⟩
      | true =>
        cases b2 with
        | false =>
          go_wp2
          go_ret
          exact ⟨rfl, HB1.out⟩
        | true =>
          go_wp2
          go_ret
          exact ⟨by simp, HB1.out⟩
  · have s0 : (p.side != 0) = true := by simp [hs]
    clear hs
    cases b0 with
    | false =>
      go_wp2
      go_ret
      exact ⟨rfl, HB1.out⟩
    | true =>
      cases b1 with
      | false =>
        go_wp2
        go_ret
        exact ⟨rfl, HB1.out⟩
      | true =>
        cases b2 with
        | false =>
          go_wp2
          go_ret
          exact ⟨rfl, HB1.out⟩
        | true =>
          go_wp2
          go_ret
          exact ⟨by simp, HB1.out⟩

set_option maxRecDepth 100000 in
set_option maxHeartbeats 4000000 in
theorem ref_came (p : Peer) (q : Pdu) (A : Option Addr) (c : Nat) (k : Int) (hpo : p.ok) (hk : q.ok) (hn : q.body.length ≤ 2000) (w : World) (hs : Sl w 1 A q.body.length c (u8s q.body)) :
    Calls Try.prog 44 #[prV p, pdV q A c, .int .i64 k] w fun e w' => e = .returned (.int .i64 (shCame p q k)) ∧ Below w.heap.size w w' := by
  obtain ⟨wa, hwa⟩ : ∃ wa, (w.alloc (.cells (prA p) 26)).alloc (.cells (pdA q A c) 30) = wa := ⟨_, rfl⟩
  have hbwa : Below w.heap.size w wa := by rw [← hwa]; exact ((Below.refl _ _).alloc (Nat.le_refl _) _).alloc (by simp) _
  have h0 : Has wa (w.heap.size) 26 (prA p) := by rw [← hwa]; exact ((Has.made _ _ _).beside _)
  have h1 : Has wa (w.heap.size + 1) 30 (pdA q A c) := by rw [← hwa]; exact (has_at (by simp))
  have HWA := Lib.hid hwa; have HBWA := Lib.hid hbwa
  have HF := Lib.hid (fun W => ref_fits p q A c k hk (by omega) W)
  have HR := Lib.hid (fun W (hW : Below w.heap.size w W) => ref_right p.key hpo.2.2.2.1 q A c hk hn W (Sl.under hs hW))
  have HP := Lib.hid h0; have HQ := Lib.hid h1
  have HC := Lib.hid (fun W (hW : Below wa.heap.size wa W) => And.intro (h0.under hW h0.lt) (h1.under hW h1.lt))
  have eb := nat_beq q.b p.b
  clear hwa hbwa h0 h1 hk hn hs hpo
  obtain ⟨E, hE⟩ : ∃ E, shCame p q k = E := ⟨_, rfl⟩
  rw [hE]
  unfold shCame at hE
  have HE := Lib.hid hE
  clear hE
  by_cases f1 : shFits p q k
  rotate_left
  · obtain rfl : 1 = E := by have h := HE.out; rwa [if_neg f1] at h
    rw [decide_eq_false f1] at HF
    clear HE
    clear f1 HR HC eb
    unfold prV pdV at HF ⊢
    go_enter Try.func44, Try.ntmps44
    go_upto_region 1 with fail
    rw [HWA.out]
    go_wp2_with (first | (with_reducible refine wpList_load_row (o := ⟨some 9, _, _, _, _, _⟩) rfl 26 _ rfl (w.heap.size) rfl 26 (prA p) (0, 0) _ (HP.out).raw Try.underlying26 rfl (by kernel_rfl) ?_) | (with_reducible refine wpList_load_row (o := ⟨some 10, _, _, _, _, _⟩) rfl 30 _ rfl (w.heap.size + 1) rfl 30 (pdA q A c) (0, 0) _ (HQ.out).raw Try.underlying30 rfl (by kernel_rfl) ?_))
    refine (HF.out _).mono ?_
    rintro e w1 ⟨rfl, hb1⟩
    have HB1 := Lib.hid (HBWA.out.trans (hb1.mono HBWA.out.size))
    clear hb1
    go_wp2
    go_ret
    exact ⟨rfl, HB1.out⟩
  have HE1 := Lib.hid (by have h := HE.out; rw [if_pos f1] at h; exact h)
  rw [decide_eq_true f1] at HF
  clear f1 HE
  obtain ⟨r, hr⟩ : ∃ r, decide (pdRight p.key q) = r := ⟨_, rfl⟩
  rw [hr] at HR
  have hrr : (if pdRight p.key q then (0 : Int) else 90) = if r = true then 0 else 90 := by
    rw [← hr]
    by_cases h : pdRight p.key q <;> simp [h]
  rw [hrr] at HE1
  clear hrr hr
  unfold prV pdV at *
  go_enter Try.func44, Try.ntmps44
  go_upto_region 1 with fail
  rw [HWA.out]
  go_wp2_with (first | (with_reducible refine wpList_load_row (o := ⟨some 9, _, _, _, _, _⟩) rfl 26 _ rfl (w.heap.size) rfl 26 (prA p) (0, 0) _ (HP.out).raw Try.underlying26 rfl (by kernel_rfl) ?_) | (with_reducible refine wpList_load_row (o := ⟨some 10, _, _, _, _, _⟩) rfl 30 _ rfl (w.heap.size + 1) rfl 30 (pdA q A c) (0, 0) _ (HQ.out).raw Try.underlying30 rfl (by kernel_rfl) ?_))
  refine (HF.out _).mono ?_
  rintro e w1 ⟨rfl, hb1⟩
  obtain ⟨hp, hq⟩ := HC.out w1 hb1
  have c6 : w1.cell? ⟨w.heap.size, 6, none⟩ = some (.int .i64 p.state) := (hp).cell 6
  have c8 : w1.cell? ⟨w.heap.size, 8, none⟩ = some (.int .u32 (p.b : Nat)) := (hp).cell 8
  have c9 : w1.cell? ⟨w.heap.size, 9, none⟩ = some (.int .u32 (p.key.a : Nat)) := (hp).cell 9
  have c10 : w1.cell? ⟨w.heap.size, 10, none⟩ = some (.int .u32 (p.key.b : Nat)) := (hp).cell 10
  have c11 : w1.cell? ⟨w.heap.size, 11, none⟩ = some (.int .u32 (p.key.c : Nat)) := (hp).cell 11
  have c12 : w1.cell? ⟨w.heap.size, 12, none⟩ = some (.int .u32 (p.key.d : Nat)) := (hp).cell 12
  have d4 : w1.cell? ⟨w.heap.size + 1, 4, none⟩ = some (.int .u32 (q.b : Nat)) := (hq).cell 4
  have HB1 := Lib.hid (HBWA.out.trans (hb1.mono HBWA.out.size))
  have HQ1 := Lib.hid hq
  clear hp hq hb1 HF HP HQ HC HWA
  by_cases f2 : p.state = 2
  rotate_left
  · obtain rfl : 6 = E := by have h := HE1.out; rwa [if_neg f2] at h
    clear HE1
    have s0 : (p.state != 2) = true := by simp [f2]
    clear f2
    go_wp2
    go_ret
    exact ⟨rfl, HB1.out⟩
  have HE2 := Lib.hid (by have h := HE1.out; rw [if_pos f2] at h; exact h)
  clear HE1
  have s0 : (p.state != 2) = false := by simp [f2]
  clear f2
  by_cases f3 : q.b = p.b
  rotate_left
  · obtain rfl : 110 = E := by have h := HE2.out; rwa [if_neg f3] at h
    clear HE2
    have s1 : ((q.b : Int) != (p.b : Int)) = true := by simp; omega
    clear f3 eb
    go_wp2
    go_ret
    exact ⟨rfl, HB1.out⟩
  have HE3 := Lib.hid (by have h := HE2.out; rw [if_pos f3] at h; exact h)
  clear HE2
  have s1 : ((q.b : Int) != (p.b : Int)) = false := by simp; omega
  clear f3 eb
  have HR1 := Lib.hid (HR.out w1 HB1.out)
  unfold keyV keyA at HR1
  clear HR
  go_wp2_with (with_reducible refine wpList_load_row (o := ⟨some 25, _, _, _, _, _⟩) rfl 30 _ rfl (w.heap.size + 1) rfl 30 (pdA q A c) (0, 0) _ (HQ1.out).raw Try.underlying30 rfl (by kernel_rfl) ?_)
  refine HR1.out.mono ?_
  rintro e w2 ⟨rfl, hb2⟩
  have HB2 := Lib.hid (HB1.out.trans (hb2.mono HB1.out.size))
  clear hb2 c6 c8 c9 c10 c11 c12 d4 HQ1 HR1
  cases r with
  | false =>
    obtain rfl : 90 = E := HE3.out
    clear HE3
    go_wp2
    go_ret
    exact ⟨rfl, HB2.out⟩
  | true =>
    obtain rfl : 0 = E := HE3.out
    clear HE3
    go_wp2
    go_ret
    exact ⟨rfl, HB2.out⟩
end Go.Proofs.Ytekcnmimfhiblaa
