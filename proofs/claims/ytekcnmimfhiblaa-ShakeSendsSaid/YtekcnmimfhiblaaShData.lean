/-
  linesideref10: Data, Take, by contract.
-/
import Derived.Test.YtekcnmimfhiblaaShDone
import Derived.Deep.DeepCutAuto
namespace Go.Proofs.Ytekcnmimfhiblaa
open Go.RowKit
open Go.Great

/-- A PDU, an error; the body may lie where the bytes that were handed in lie. -/
def ShPostD (A : Option Addr) (r : Pdu × Int) (w : World) (e : Ending) (w' : World) : Prop :=
  ∃ A' c', e = .returned (.tuple #[pdV r.1 A' c', .int .i64 r.2]) ∧ Hid (Sl w' 1 A' r.1.body.length c' (u8s r.1.body)) ∧ Hid (∀ a, A' = some a → w.heap.size ≤ a.block ∨ ∃ a0, A = some a0 ∧ a.block = a0.block) ∧ Hid (Below w.heap.size w w')
/-- Bytes, an error. -/
def ShPostT (A : Option Addr) (r : List Nat × Int) (w : World) (e : Ending) (w' : World) : Prop :=
  ∃ A' c', e = .returned (.tuple #[.slice A' r.1.length c', .int .i64 r.2]) ∧ Hid (Sl w' 1 A' r.1.length c' (u8s r.1)) ∧ Hid (∀ a, A' = some a → w.heap.size ≤ a.block ∨ ∃ a0, A = some a0 ∧ a.block = a0.block) ∧ Hid (Below w.heap.size w w')

set_option maxRecDepth 100000 in
set_option maxHeartbeats 4000000 in
theorem ref_data (p : Peer) (A : Option Addr) (c : Nat) (xs : List Nat) (hpo : p.ok) (hx8 : bytes8 xs) (w : World) (hs : Sl w 1 A xs.length c (u8s xs)) :
    Calls Try.prog 20 #[prV p, .slice A xs.length c] w (ShPostD A (shData p xs) w) := by
  obtain ⟨wa, hwa⟩ : ∃ wa, (w.alloc (.cells (prA p) 26)).alloc (.cells #[.int .i64 0, .int .i64 0, .int .i64 0, .int .u32 0, .int .u32 0, .slice none 0 0, .int .u64 0] 30) = wa := ⟨_, rfl⟩
  have hbwa : Below w.heap.size w wa := by rw [← hwa]; exact ((Below.refl _ _).alloc (Nat.le_refl _) _).alloc (by simp) _
  have h0 : Has wa (w.heap.size) 26 (prA p) := by rw [← hwa]; exact ((Has.made _ _ _).beside _)
  have h1 : Has wa (w.heap.size + 1) 30 #[.int .i64 0, .int .i64 0, .int .i64 0, .int .u32 0, .int .u32 0, .slice none 0 0, .int .u64 0] := by rw [← hwa]; exact (has_at (by simp))
  have HWA := Lib.hid hwa; have HBWA := Lib.hid hbwa
  have HN := Lib.hid (fun W => ref_numbered p W)
  have HSL := Lib.hid (fun W (hW : Below w.heap.size w W) => Sl.under hs hW)
  have HP := Lib.hid h0; have HZ := Lib.hid h1
  have HC := Lib.hid (fun W (hW : Below wa.heap.size wa W) => And.intro (h0.under hW h0.lt) (h1.under hW h1.lt))
  have c6 : wa.cell? ⟨w.heap.size, 6, none⟩ = some (.int .i64 p.state) := (h0).cell 6
  clear hwa hbwa h0 h1 hs
  by_cases f1 : p.state = 2
  rotate_left
  · have hr : shData p xs = (pdZero, 6) := by unfold shData; rw [if_neg f1]
    rw [hr]
    have s0 : (p.state != 2) = true := by simp [f1]
    clear hr f1 HN HSL HC hpo
    unfold prV at *
    go_enter Try.func20, Try.ntmps20
    go_upto_region 1 with fail
    rw [HWA.out]
    clear HWA
    have HX0 := Lib.hid (HZ.out); have HX2 := Lib.hid (has_setRow7 HZ.out (pdA pdZero none 0))
    have HXB := Lib.hid (below_row (g := w.heap.size + 1) HBWA.out (by omega) (pdA pdZero none 0))
    go_wp2_with (with_reducible refine wpList_store_rowTo (o := ⟨none, _, _, _, _, _⟩) rfl 30 _ _ rfl rfl (w.heap.size + 1) (pdA pdZero none 0) rfl rfl 30 _ (HX0.out).raw (by kernel_rfl) (by kernel_rfl) (by kernel_rfl) ?_)
    refine bodyPost_ret (results_row_tmp9 rfl _ _ (w.heap.size + 1) 30 _ _ rfl HX2.out Try.underlying30 rfl (by kernel_rfl)) rfl ?_
    exact ⟨none, 0, rfl, Lib.hid (sl_nil _ _), Lib.hid (fun a ha => by cases ha), HXB⟩
  have s0 : (p.state != 2) = false := by simp [f1]
  by_cases f2 : numbered p ∧ 1 ≤ xs.length ∧ xs.length ≤ 1023
  rotate_left
  · have hr : shData p xs = (pdZero, 1) := by unfold shData; rw [if_pos f1, if_neg f2]
    rw [hr]
    obtain ⟨b, hb⟩ : ∃ b, decide (numbered p) = b := ⟨_, rfl⟩
    rw [hb] at HN
    have s1 : b = false ∨ (b = true ∧ (xs.length : Int) < 1) ∨ (b = true ∧ ¬ (xs.length : Int) < 1 ∧ (1023 : Int) < (xs.length : Int)) := by
      cases b with
      | false => exact .inl rfl
      | true =>
        have hn : numbered p := of_decide_eq_true hb
        by_cases h1 : xs.length < 1
        · exact .inr (.inl ⟨rfl, by omega⟩)
        · exact .inr (.inr ⟨rfl, by omega, by have : ¬ xs.length ≤ 1023 := fun h => f2 ⟨hn, by omega, h⟩; omega⟩)
    clear hr f1 f2 hb HSL hpo
    unfold prV at *
    go_enter Try.func20, Try.ntmps20
    go_upto_region 1 with fail
    rw [HWA.out]
    clear HWA
    go_wp2_with (with_reducible refine wpList_load_row (o := ⟨some 13, _, _, _, _, _⟩) rfl 26 _ rfl (w.heap.size) rfl 26 (prA p) (0, 0) _ (HP.out).raw Try.underlying26 rfl (by kernel_rfl) ?_)
    refine (HN.out _).mono ?_
    rintro e w1 ⟨rfl, hb1⟩
    obtain ⟨_, hz1⟩ := HC.out w1 hb1
    have HZ1 := Lib.hid hz1; have HBW := Lib.hid (HBWA.out.trans (hb1.mono HBWA.out.size))
    clear hb1 hz1 c6 HN HP HZ HC
    rcases s1 with rfl | ⟨rfl, s1⟩ | ⟨rfl, s1, s2⟩
    all_goals
      have HX0 := Lib.hid (HZ1.out); have HX2 := Lib.hid (has_setRow7 HZ1.out (pdA pdZero none 0))
      have HXB := Lib.hid (below_row (g := w.heap.size + 1) HBW.out (by omega) (pdA pdZero none 0))
      go_wp2_with (with_reducible refine wpList_store_rowTo (o := ⟨none, _, _, _, _, _⟩) rfl 30 _ _ rfl rfl (w.heap.size + 1) (pdA pdZero none 0) rfl rfl 30 _ (HX0.out).raw (by kernel_rfl) (by kernel_rfl) (by kernel_rfl) ?_)
      refine bodyPost_ret (results_row_tmp9 rfl _ _ (w.heap.size + 1) 30 _ _ rfl HX2.out Try.underlying30 rfl (by kernel_rfl)) rfl ?_
      exact ⟨none, 0, rfl, Lib.hid (sl_nil _ _), Lib.hid (fun a ha => by cases ha), HXB⟩
  obtain ⟨d, hd⟩ : ∃ d, ownD p = d := ⟨_, rfl⟩
  have hds : (p.side = 0 ∧ d = 0) ∨ (p.side ≠ 0 ∧ d = 1) := by
    by_cases h : p.side = 0
    · exact .inl ⟨h, by rw [← hd]; unfold ownD; rw [if_pos h]⟩
    · exact .inr ⟨h, by rw [← hd]; unfold ownD; rw [if_neg h]⟩
  have hr : shData p xs = (pdSeal p.key ⟨5, d, p.train, 0, p.b, xs, 0⟩, 0) := by unfold shData; rw [if_pos f1, if_pos f2, hd]
  rw [hr]
  have hxo : (⟨5, d, p.train, 0, p.b, xs, 0⟩ : Pdu).ok := ⟨show 0 < 4294967296 by decide, hpo.2.2.1, hx8, show 0 < 18446744073709551616 by decide⟩
  have HSEAL := Lib.hid (fun W (hW : Below w.heap.size w W) => ref_seal p.key hpo.2.2.2.1 ⟨5, d, p.train, 0, p.b, xs, 0⟩ A c hxo (by show xs.length ≤ 2000; omega) W (HSL.out W hW))
  have hbd : (pdSeal p.key ⟨5, d, p.train, 0, p.b, xs, 0⟩).body = xs := seal_body _ _
  have HBD := Lib.hid hbd
  have s1 : ¬ (xs.length : Int) < 1 := by omega
  have s2 : ¬ (1023 : Int) < (xs.length : Int) := by omega
  rw [decide_eq_true f2.1] at HN
  clear hr f1 f2 hd hxo hbd hpo
  rcases hds with ⟨hs, rfl⟩ | ⟨hs, rfl⟩
  · have s3 : (p.side == 0) = true := by simp [hs]
    clear hs
    unfold prV at *
    go_enter Try.func20, Try.ntmps20
    go_upto_region 1 with fail
    rw [HWA.out]
    clear HWA
    go_wp2_with (with_reducible refine wpList_load_row (o := ⟨some 13, _, _, _, _, _⟩) rfl 26 _ rfl (w.heap.size) rfl 26 (prA p) (0, 0) _ (HP.out).raw Try.underlying26 rfl (by kernel_rfl) ?_)
    refine (HN.out _).mono ?_
    rintro e w1 ⟨rfl, hb1⟩
    obtain ⟨hp, hz1⟩ := HC.out w1 hb1
    have hbw := HBWA.out.trans (hb1.mono HBWA.out.size)
    clear c6 HN HP HZ HC
    have c0 : w1.cell? ⟨w.heap.size, 0, none⟩ = some (.int .i64 p.side) := (hp).cell 0
    have c1 : w1.cell? ⟨w.heap.size, 1, none⟩ = some (.int .i64 p.train) := (hp).cell 1
    have c8 : w1.cell? ⟨w.heap.size, 8, none⟩ = some (.int .u32 (p.b : Nat)) := (hp).cell 8
    have c9 : w1.cell? ⟨w.heap.size, 9, none⟩ = some (.int .u32 (p.key.a : Nat)) := (hp).cell 9
    have c10 : w1.cell? ⟨w.heap.size, 10, none⟩ = some (.int .u32 (p.key.b : Nat)) := (hp).cell 10
    have c11 : w1.cell? ⟨w.heap.size, 11, none⟩ = some (.int .u32 (p.key.c : Nat)) := (hp).cell 11
    have c12 : w1.cell? ⟨w.heap.size, 12, none⟩ = some (.int .u32 (p.key.d : Nat)) := (hp).cell 12
    obtain ⟨wc, hwc⟩ : ∃ wc, w1.alloc (.cells (pdA ⟨5, 0, p.train, 0, p.b, xs, 0⟩ A c) 30) = wc := ⟨_, rfl⟩
    have hbc : Below w1.heap.size w1 wc := by rw [← hwc]; exact (Below.refl _ _).alloc (Nat.le_refl _) _
    obtain ⟨gx, hgx⟩ : ∃ gx, w1.heap.size = gx := ⟨_, rfl⟩
    have hxc : Has wc gx 30 (pdA ⟨5, 0, p.train, 0, p.b, xs, 0⟩ A c) := by rw [← hwc, ← hgx]; exact Has.made _ _ _
    have hbwc := hbw.trans (hbc.mono hbw.size)
    have hpc := hp.under hbc hp.lt
    have HX := Lib.hid hxc; have HZ1 := Lib.hid (hz1.under hbc hz1.lt); have HBC := Lib.hid hbwc; have HPC := Lib.hid hpc
    have HS1 := Lib.hid (HSEAL.out wc hbwc)
    have HWC := Lib.hid hwc; have HGX := Lib.hid hgx
    unfold keyV keyA pdV at HS1
    clear hb1 hp hz1 hbw hwc hbc hgx hxc hbwc hpc HSEAL
    go_upto_region 10 with fail
    rw [HGX.out]
    rw [show w1.alloc (.cells #[.int .i64 5, .int .i64 0, .int .i64 p.train, .int .u32 0, .int .u32 (p.b : Nat), .slice A xs.length c, .int .u64 0] 30) = wc from HWC.out]
    clear c0 c1 c8 c9 c10 c11 c12 HWC HGX
    have c9 : wc.cell? ⟨w.heap.size, 9, none⟩ = some (.int .u32 (p.key.a : Nat)) := (HPC.out).cell 9
    have c10 : wc.cell? ⟨w.heap.size, 10, none⟩ = some (.int .u32 (p.key.b : Nat)) := (HPC.out).cell 10
    have c11 : wc.cell? ⟨w.heap.size, 11, none⟩ = some (.int .u32 (p.key.c : Nat)) := (HPC.out).cell 11
    have c12 : wc.cell? ⟨w.heap.size, 12, none⟩ = some (.int .u32 (p.key.d : Nat)) := (HPC.out).cell 12
    go_wp2_with (with_reducible refine wpList_load_row (o := ⟨some 40, _, _, _, _, _⟩) rfl 30 _ rfl (gx) rfl 30 (pdA ⟨5, 0, p.train, 0, p.b, xs, 0⟩ A c) (0, 0) _ (HX.out).raw Try.underlying30 rfl (by kernel_rfl) ?_)
    refine HS1.out.mono ?_
    rintro e w3 ⟨rfl, hb3⟩
    have HZ3 := Lib.hid (HZ1.out.under hb3 HZ1.out.lt); have HB3 := Lib.hid (HBC.out.trans (hb3.mono HBC.out.size))
    clear c9 c10 c11 c12 HX HZ1 HBC HS1 hb3 HPC
    have HX0 := Lib.hid (HZ3.out); have HX2 := Lib.hid (has_setRow7 HZ3.out (pdA (pdSeal p.key ⟨5, 0, p.train, 0, p.b, xs, 0⟩) A c))
    have HXB := Lib.hid (below_row (g := w.heap.size + 1) HB3.out (by omega) (pdA (pdSeal p.key ⟨5, 0, p.train, 0, p.b, xs, 0⟩) A c))
    go_wp2_with (with_reducible refine wpList_store_rowTo (o := ⟨none, _, _, _, _, _⟩) rfl 30 _ _ rfl rfl (w.heap.size + 1) (pdA (pdSeal p.key ⟨5, 0, p.train, 0, p.b, xs, 0⟩) A c) rfl rfl 30 _ (HX0.out).raw (by kernel_rfl) (by kernel_rfl) (by kernel_rfl) ?_)
    refine bodyPost_ret (results_row_tmp9 rfl _ _ (w.heap.size + 1) 30 _ _ rfl HX2.out Try.underlying30 rfl (by kernel_rfl)) rfl ?_
    exact ⟨A, c, rfl, Lib.hid (by simp only [HBD.out]; exact HSL.out _ HXB.out), Lib.hid (fun a ha => .inr ⟨a, ha, rfl⟩), HXB⟩
  · have s3 : (p.side == 0) = false := by simp [hs]
    clear hs
    unfold prV at *
    go_enter Try.func20, Try.ntmps20
    go_upto_region 1 with fail
    rw [HWA.out]
    clear HWA
    go_wp2_with (with_reducible refine wpList_load_row (o := ⟨some 13, _, _, _, _, _⟩) rfl 26 _ rfl (w.heap.size) rfl 26 (prA p) (0, 0) _ (HP.out).raw Try.underlying26 rfl (by kernel_rfl) ?_)
    refine (HN.out _).mono ?_
    rintro e w1 ⟨rfl, hb1⟩
    obtain ⟨hp, hz1⟩ := HC.out w1 hb1
    have hbw := HBWA.out.trans (hb1.mono HBWA.out.size)
    clear c6 HN HP HZ HC
    have c0 : w1.cell? ⟨w.heap.size, 0, none⟩ = some (.int .i64 p.side) := (hp).cell 0
    have c1 : w1.cell? ⟨w.heap.size, 1, none⟩ = some (.int .i64 p.train) := (hp).cell 1
    have c8 : w1.cell? ⟨w.heap.size, 8, none⟩ = some (.int .u32 (p.b : Nat)) := (hp).cell 8
    have c9 : w1.cell? ⟨w.heap.size, 9, none⟩ = some (.int .u32 (p.key.a : Nat)) := (hp).cell 9
    have c10 : w1.cell? ⟨w.heap.size, 10, none⟩ = some (.int .u32 (p.key.b : Nat)) := (hp).cell 10
    have c11 : w1.cell? ⟨w.heap.size, 11, none⟩ = some (.int .u32 (p.key.c : Nat)) := (hp).cell 11
    have c12 : w1.cell? ⟨w.heap.size, 12, none⟩ = some (.int .u32 (p.key.d : Nat)) := (hp).cell 12
    obtain ⟨wc, hwc⟩ : ∃ wc, w1.alloc (.cells (pdA ⟨5, 1, p.train, 0, p.b, xs, 0⟩ A c) 30) = wc := ⟨_, rfl⟩
    have hbc : Below w1.heap.size w1 wc := by rw [← hwc]; exact (Below.refl _ _).alloc (Nat.le_refl _) _
    obtain ⟨gx, hgx⟩ : ∃ gx, w1.heap.size = gx := ⟨_, rfl⟩
    have hxc : Has wc gx 30 (pdA ⟨5, 1, p.train, 0, p.b, xs, 0⟩ A c) := by rw [← hwc, ← hgx]; exact Has.made _ _ _
    have hbwc := hbw.trans (hbc.mono hbw.size)
    have hpc := hp.under hbc hp.lt
    have HX := Lib.hid hxc; have HZ1 := Lib.hid (hz1.under hbc hz1.lt); have HBC := Lib.hid hbwc; have HPC := Lib.hid hpc
    have HS1 := Lib.hid (HSEAL.out wc hbwc)
    have HWC := Lib.hid hwc; have HGX := Lib.hid hgx
    unfold keyV keyA pdV at HS1
    clear hb1 hp hz1 hbw hwc hbc hgx hxc hbwc hpc HSEAL
    go_upto_region 10 with fail
    rw [HGX.out]
    rw [show w1.alloc (.cells #[.int .i64 5, .int .i64 1, .int .i64 p.train, .int .u32 0, .int .u32 (p.b : Nat), .slice A xs.length c, .int .u64 0] 30) = wc from HWC.out]
    clear c0 c1 c8 c9 c10 c11 c12 HWC HGX
    have c9 : wc.cell? ⟨w.heap.size, 9, none⟩ = some (.int .u32 (p.key.a : Nat)) := (HPC.out).cell 9
    have c10 : wc.cell? ⟨w.heap.size, 10, none⟩ = some (.int .u32 (p.key.b : Nat)) := (HPC.out).cell 10
    have c11 : wc.cell? ⟨w.heap.size, 11, none⟩ = some (.int .u32 (p.key.c : Nat)) := (HPC.out).cell 11
    have c12 : wc.cell? ⟨w.heap.size, 12, none⟩ = some (.int .u32 (p.key.d : Nat)) := (HPC.out).cell 12
    go_wp2_with (with_reducible refine wpList_load_row (o := ⟨some 40, _, _, _, _, _⟩) rfl 30 _ rfl (gx) rfl 30 (pdA ⟨5, 1, p.train, 0, p.b, xs, 0⟩ A c) (0, 0) _ (HX.out).raw Try.underlying30 rfl (by kernel_rfl) ?_)
    refine HS1.out.mono ?_
    rintro e w3 ⟨rfl, hb3⟩
    have HZ3 := Lib.hid (HZ1.out.under hb3 HZ1.out.lt); have HB3 := Lib.hid (HBC.out.trans (hb3.mono HBC.out.size))
    clear c9 c10 c11 c12 HX HZ1 HBC HS1 hb3 HPC
    have HX0 := Lib.hid (HZ3.out); have HX2 := Lib.hid (has_setRow7 HZ3.out (pdA (pdSeal p.key ⟨5, 1, p.train, 0, p.b, xs, 0⟩) A c))
    have HXB := Lib.hid (below_row (g := w.heap.size + 1) HB3.out (by omega) (pdA (pdSeal p.key ⟨5, 1, p.train, 0, p.b, xs, 0⟩) A c))
    go_wp2_with (with_reducible refine wpList_store_rowTo (o := ⟨none, _, _, _, _, _⟩) rfl 30 _ _ rfl rfl (w.heap.size + 1) (pdA (pdSeal p.key ⟨5, 1, p.train, 0, p.b, xs, 0⟩) A c) rfl rfl 30 _ (HX0.out).raw (by kernel_rfl) (by kernel_rfl) (by kernel_rfl) ?_)
    refine bodyPost_ret (results_row_tmp9 rfl _ _ (w.heap.size + 1) 30 _ _ rfl HX2.out Try.underlying30 rfl (by kernel_rfl)) rfl ?_
    exact ⟨A, c, rfl, Lib.hid (by simp only [HBD.out]; exact HSL.out _ HXB.out), Lib.hid (fun a ha => .inr ⟨a, ha, rfl⟩), HXB⟩

set_option maxRecDepth 100000 in
set_option maxHeartbeats 4000000 in
theorem ref_take (p : Peer) (q : Pdu) (A : Option Addr) (c : Nat) (hpo : p.ok) (hk : q.ok) (hn : q.body.length ≤ 2000) (w : World) (hs : Sl w 1 A q.body.length c (u8s q.body)) :
    Calls Try.prog 22 #[prV p, pdV q A c] w (ShPostT A (shTake p q) w) := by
  obtain ⟨wa, hwa⟩ : ∃ wa, (w.alloc (.cells (prA p) 26)).alloc (.cells (pdA q A c) 30) = wa := ⟨_, rfl⟩
  have hbwa : Below w.heap.size w wa := by rw [← hwa]; exact ((Below.refl _ _).alloc (Nat.le_refl _) _).alloc (by simp) _
  have h0 : Has wa (w.heap.size) 26 (prA p) := by rw [← hwa]; exact ((Has.made _ _ _).beside _)
  have h1 : Has wa (w.heap.size + 1) 30 (pdA q A c) := by rw [← hwa]; exact (has_at (by simp))
  have HWA := Lib.hid hwa; have HBWA := Lib.hid hbwa
  have HCM := Lib.hid (ref_came p q A c 5 hpo hk hn wa (hs.under hbwa))
  have HSL := Lib.hid (fun W (hW : Below w.heap.size w W) => Sl.under hs hW)
  have HP := Lib.hid h0; have HQ := Lib.hid h1
  have HC := Lib.hid (fun W (hW : Below wa.heap.size wa W) => h1.under hW h1.lt)
  clear hwa hbwa h0 h1 hs hpo hk hn
  obtain ⟨E, hE⟩ : ∃ E, shCame p q 5 = E := ⟨_, rfl⟩
  rw [hE] at HCM
  by_cases f1 : E = 0
  · subst f1
    have hr : shTake p q = (q.body, 0) := by unfold shTake; rw [if_pos hE]
    rw [hr]
    clear hr hE
    unfold prV pdV at *
    go_enter Try.func22, Try.ntmps22
    go_upto_region 1 with fail
    rw [HWA.out]
    clear HWA
    go_wp2_with (first | (with_reducible refine wpList_load_row (o := ⟨some 7, _, _, _, _, _⟩) rfl 26 _ rfl (w.heap.size) rfl 26 (prA p) (0, 0) _ (HP.out).raw Try.underlying26 rfl (by kernel_rfl) ?_) | (with_reducible refine wpList_load_row (o := ⟨some 8, _, _, _, _, _⟩) rfl 30 _ rfl (w.heap.size + 1) rfl 30 (pdA q A c) (0, 0) _ (HQ.out).raw Try.underlying30 rfl (by kernel_rfl) ?_))
    refine HCM.out.mono ?_
    rintro e w1 ⟨rfl, hb1⟩
    have hq := HC.out w1 hb1
    have d5 : w1.cell? ⟨w.heap.size + 1, 5, none⟩ = some (.slice A q.body.length c) := (hq).cell 5
    have HBW := Lib.hid (HBWA.out.trans (hb1.mono HBWA.out.size))
    clear hb1 hq
    go_wp2
    go_ret2
    exact ⟨A, c, rfl, Lib.hid (HSL.out _ HBW.out), Lib.hid (fun a ha => .inr ⟨a, ha, rfl⟩), HBW⟩
  · have hr : shTake p q = ([], E) := by unfold shTake; rw [if_neg (by rw [hE]; exact f1), hE]
    rw [hr]
    have s0 : (E != 0) = true := by simp [f1]
    clear hr hE f1
    unfold prV pdV at *
    go_enter Try.func22, Try.ntmps22
    go_upto_region 1 with fail
    rw [HWA.out]
    clear HWA
    go_wp2_with (first | (with_reducible refine wpList_load_row (o := ⟨some 7, _, _, _, _, _⟩) rfl 26 _ rfl (w.heap.size) rfl 26 (prA p) (0, 0) _ (HP.out).raw Try.underlying26 rfl (by kernel_rfl) ?_) | (with_reducible refine wpList_load_row (o := ⟨some 8, _, _, _, _, _⟩) rfl 30 _ rfl (w.heap.size + 1) rfl 30 (pdA q A c) (0, 0) _ (HQ.out).raw Try.underlying30 rfl (by kernel_rfl) ?_))
    refine HCM.out.mono ?_
    rintro e w1 ⟨rfl, hb1⟩
    have HBW := Lib.hid (HBWA.out.trans (hb1.mono HBWA.out.size))
    clear hb1
    go_wp2
    go_ret2
    exact ⟨none, 0, rfl, Lib.hid (sl_nil _ _), Lib.hid (fun a ha => by cases ha), HBW⟩
end Go.Proofs.Ytekcnmimfhiblaa
