/-
  package shake as landed: outgoing, with, closed, made.
-/
import Derived.Test.YtekcnmimfhiblaaShEnd
import Derived.Test.YtekcnmimfhiblaaPdOwnD
import Derived.Deep.DeepCutAuto
namespace Go.Proofs.Ytekcnmimfhiblaa
open Go.RowKit
open Go.Great

/-- The part of an end that belongs to one connection. -/
structure Conn where
  a : Nat
  b : Nat
  key : Key4
def conn0 : Conn := ⟨0, 0, key0⟩
def cnA (c : Conn) : Array Value := #[.int .u32 (c.a : Nat), .int .u32 (c.b : Nat), .int .u32 (c.key.a : Nat), .int .u32 (c.key.b : Nat), .int .u32 (c.key.c : Nat), .int .u32 (c.key.d : Nat)]
def cnV (c : Conn) : Value := .agg (cnA c)
def shWith (p : Peer) (s : Int) (c : Conn) : Peer := { p with state := s, a := c.a, b := c.b, key := c.key }
theorem cn_cells {w : World} {g : Nat} {t : TypeId} {c : Conn} (h : Has w g t (cnA c)) :
    w.cell? ⟨g, 0, none⟩ = some (.int .u32 (c.a : Nat)) ∧ w.cell? ⟨g, 1, none⟩ = some (.int .u32 (c.b : Nat)) ∧ w.cell? ⟨g, 2, none⟩ = some (.int .u32 (c.key.a : Nat)) ∧ w.cell? ⟨g, 3, none⟩ = some (.int .u32 (c.key.b : Nat)) ∧ w.cell? ⟨g, 4, none⟩ = some (.int .u32 (c.key.c : Nat)) ∧ w.cell? ⟨g, 5, none⟩ = some (.int .u32 (c.key.d : Nat)) :=
  ⟨h.cell 0, h.cell 1, h.cell 2, h.cell 3, h.cell 4, h.cell 5⟩

set_option maxRecDepth 100000 in
set_option maxHeartbeats 4000000 in
theorem osh_outgoing (p : Peer) (w : World) :
    Calls Try.prog 49 #[prV p] w fun e w' => e = .returned (.int .i64 (ownD p)) ∧ Below w.heap.size w w' := by
  obtain ⟨d, hd⟩ : ∃ d, ownD p = d := ⟨_, rfl⟩
  have hds : (p.side = 0 ∧ d = 0) ∨ (p.side ≠ 0 ∧ d = 1) := by
    by_cases h : p.side = 0
    · exact .inl ⟨h, by rw [← hd]; unfold ownD; rw [if_pos h]⟩
    · exact .inr ⟨h, by rw [← hd]; unfold ownD; rw [if_neg h]⟩
  rw [hd]
  clear hd
  unfold prV prA
  rcases hds with ⟨hs, rfl⟩ | ⟨hs, rfl⟩
  · have s0 : (p.side == 0) = true := by simp [hs]
    clear hs
    go_enter Try.func49, Try.ntmps49
    go_wp2
    go_ret
    exact ⟨rfl, (Below.refl _ _).alloc (Nat.le_refl _) _⟩
  · have s0 : (p.side == 0) = false := by simp [hs]
    clear hs
    go_enter Try.func49, Try.ntmps49
    go_wp2
    go_ret
    exact ⟨rfl, (Below.refl _ _).alloc (Nat.le_refl _) _⟩

set_option maxRecDepth 100000 in
set_option maxHeartbeats 4000000 in
theorem osh_with (p : Peer) (s : Int) (c : Conn) (w : World) :
    Calls Try.prog 30 #[prV p, .int .i64 s, cnV c] w fun e w' => e = .returned (prV (shWith p s c)) ∧ Below w.heap.size w w' := by
  obtain ⟨wa, hwa⟩ : ∃ wa, ((w.alloc (.cells (prA p) 26)).alloc (.cells (cnA c) 58)).alloc (.cells #[.int .i64 0, .int .i64 0, .int .u32 0, .int .u32 0, .int .u32 0, .int .u32 0, .int .i64 0, .int .u32 0, .int .u32 0, .int .u32 0, .int .u32 0, .int .u32 0, .int .u32 0, .bool false, .int .u32 0, .int .u32 0] 26) = wa := ⟨_, rfl⟩
  have hbwa : Below w.heap.size w wa := by rw [← hwa]; exact (((Below.refl _ _).alloc (Nat.le_refl _) _).alloc (by simp) _).alloc (by simp; omega) _
  have h0 : Has wa (w.heap.size) 26 (prA p) := by rw [← hwa]; exact (((Has.made _ _ _).beside _).beside _)
  have h1 : Has wa (w.heap.size + 1) 58 (cnA c) := by rw [← hwa]; exact ((has_at (by simp)).beside _)
  have h2 : Has wa (w.heap.size + 1 + 1) 26 #[.int .i64 0, .int .i64 0, .int .u32 0, .int .u32 0, .int .u32 0, .int .u32 0, .int .i64 0, .int .u32 0, .int .u32 0, .int .u32 0, .int .u32 0, .int .u32 0, .int .u32 0, .bool false, .int .u32 0, .int .u32 0] := by rw [← hwa]; exact (has_at (by simp))
  have HWA := Lib.hid hwa; have HBWA := Lib.hid hbwa
  have c6 : wa.cell? ⟨w.heap.size, 6, none⟩ = some (.int .i64 p.state) := (h0).cell 6
  have f6 : wa.frozen? ⟨w.heap.size, 6, none⟩ = false := (h0).thaw 6
  obtain ⟨wb, hwb⟩ : ∃ wb, wa.setCell ⟨w.heap.size, 6, none⟩ (.int .i64 s) = wb := ⟨_, rfl⟩
  have hp : Has wb (w.heap.size) 26 (prA { p with state := s }) := by rw [← hwb]; exact (h0.stored 6 _).is (by kernel_rfl)
  have hc : Has wb (w.heap.size + 1) 58 (cnA c) := by rw [← hwb]; exact (h1.apart (p := ⟨w.heap.size, 6, none⟩) (by show _ ≠ w.heap.size; omega) _)
  have hz : Has wb (w.heap.size + 1 + 1) 26 #[.int .i64 0, .int .i64 0, .int .u32 0, .int .u32 0, .int .u32 0, .int .u32 0, .int .i64 0, .int .u32 0, .int .u32 0, .int .u32 0, .int .u32 0, .int .u32 0, .int .u32 0, .bool false, .int .u32 0, .int .u32 0] := by rw [← hwb]; exact (h2.apart (p := ⟨w.heap.size, 6, none⟩) (by show _ ≠ w.heap.size; omega) _)
  have hbb : Below w.heap.size w wb := by rw [← hwb]; exact (hbwa.setCell (p := ⟨w.heap.size, 6, none⟩) (by show w.heap.size ≤ w.heap.size; omega) _)
  have HWB := Lib.hid hwb
  clear hwb
  clear hwa hbwa h0 h1 h2
  have HP := Lib.hid hp; have HZ := Lib.hid hz; have HBB := Lib.hid hbb
  have b7 : wb.cell? ⟨w.heap.size, 7, none⟩ = some (.int .u32 (p.a : Nat)) := (hp).cell 7
  have b8 : wb.cell? ⟨w.heap.size, 8, none⟩ = some (.int .u32 (p.b : Nat)) := (hp).cell 8
  have b9 : wb.cell? ⟨w.heap.size, 9, none⟩ = some (.int .u32 (p.key.a : Nat)) := (hp).cell 9
  have b10 : wb.cell? ⟨w.heap.size, 10, none⟩ = some (.int .u32 (p.key.b : Nat)) := (hp).cell 10
  have b11 : wb.cell? ⟨w.heap.size, 11, none⟩ = some (.int .u32 (p.key.c : Nat)) := (hp).cell 11
  have b12 : wb.cell? ⟨w.heap.size, 12, none⟩ = some (.int .u32 (p.key.d : Nat)) := (hp).cell 12
  have e7 : wb.frozen? ⟨w.heap.size, 7, none⟩ = false := (hp).thaw 7
  have e8 : wb.frozen? ⟨w.heap.size, 8, none⟩ = false := (hp).thaw 8
  have e9 : wb.frozen? ⟨w.heap.size, 9, none⟩ = false := (hp).thaw 9
  have e10 : wb.frozen? ⟨w.heap.size, 10, none⟩ = false := (hp).thaw 10
  have e11 : wb.frozen? ⟨w.heap.size, 11, none⟩ = false := (hp).thaw 11
  have e12 : wb.frozen? ⟨w.heap.size, 12, none⟩ = false := (hp).thaw 12
  obtain ⟨k0, k1, k2, k3, k4, k5⟩ := cn_cells hc
  clear hp hz hc hbb
  unfold prV cnV
  go_enter Try.func30, Try.ntmps30
  go_upto_region 1 with fail
  rw [HWA.out]
  clear HWA
  go_upto_region 2 with fail
  rw [HWB.out]
  clear c6 f6 HWB
  obtain ⟨wd, hwd⟩ : ∃ wd, (((((wb.setCell ⟨w.heap.size, 7, none⟩ (.int .u32 (c.a : Nat))).setCell ⟨w.heap.size, 8, none⟩ (.int .u32 (c.b : Nat))).setCell ⟨w.heap.size, 9, none⟩ (.int .u32 (c.key.a : Nat))).setCell ⟨w.heap.size, 10, none⟩ (.int .u32 (c.key.b : Nat))).setCell ⟨w.heap.size, 11, none⟩ (.int .u32 (c.key.c : Nat))).setCell ⟨w.heap.size, 12, none⟩ (.int .u32 (c.key.d : Nat)) = wd := ⟨_, rfl⟩
  have hp1 : Has wd (w.heap.size) 26 (prA (shWith p s c)) := by rw [← hwd]; exact ((((((HP.out.stored 7 _).stored 8 _).stored 9 _).stored 10 _).stored 11 _).stored 12 _).is (by kernel_rfl)
  have hz1 : Has wd (w.heap.size + 1 + 1) 26 #[.int .i64 0, .int .i64 0, .int .u32 0, .int .u32 0, .int .u32 0, .int .u32 0, .int .i64 0, .int .u32 0, .int .u32 0, .int .u32 0, .int .u32 0, .int .u32 0, .int .u32 0, .bool false, .int .u32 0, .int .u32 0] := by rw [← hwd]; exact ((((((HZ.out.apart (p := ⟨w.heap.size, 7, none⟩) (by show _ ≠ w.heap.size; omega) _).apart (p := ⟨w.heap.size, 8, none⟩) (by show _ ≠ w.heap.size; omega) _).apart (p := ⟨w.heap.size, 9, none⟩) (by show _ ≠ w.heap.size; omega) _).apart (p := ⟨w.heap.size, 10, none⟩) (by show _ ≠ w.heap.size; omega) _).apart (p := ⟨w.heap.size, 11, none⟩) (by show _ ≠ w.heap.size; omega) _).apart (p := ⟨w.heap.size, 12, none⟩) (by show _ ≠ w.heap.size; omega) _)
  have hb1 : Below w.heap.size w wd := by rw [← hwd]; exact ((((((HBB.out.setCell (p := ⟨w.heap.size, 7, none⟩) (by show w.heap.size ≤ w.heap.size; omega) _).setCell (p := ⟨w.heap.size, 8, none⟩) (by show w.heap.size ≤ w.heap.size; omega) _).setCell (p := ⟨w.heap.size, 9, none⟩) (by show w.heap.size ≤ w.heap.size; omega) _).setCell (p := ⟨w.heap.size, 10, none⟩) (by show w.heap.size ≤ w.heap.size; omega) _).setCell (p := ⟨w.heap.size, 11, none⟩) (by show w.heap.size ≤ w.heap.size; omega) _).setCell (p := ⟨w.heap.size, 12, none⟩) (by show w.heap.size ≤ w.heap.size; omega) _)
  have HWD := Lib.hid hwd
  clear hwd
  go_region
  rw [HWD.out]
  have HP1 := Lib.hid hp1.draw; have HZ1 := Lib.hid hz1.draw
  have HR := Lib.hid (has_setRow7 hz1.draw (prA (shWith p s c)))
  have HBF := Lib.hid (below_row (g := w.heap.size + 1 + 1) (below_dr hb1) (by omega) (prA (shWith p s c)))
  clear hp1 hz1 hb1 HWD b7 b8 b9 b10 b11 b12 e7 e8 e9 e10 e11 e12 k0 k1 k2 k3 k4 k5
  go_wp2_with (first | (with_reducible refine wpList_load_row (o := ⟨some 18, _, _, _, _, _⟩) rfl 26 _ rfl (w.heap.size) rfl 26 (prA (shWith p s c)) (0, 0) _ (HP1.out).raw Try.underlying26 rfl (by kernel_rfl) ?_) | (with_reducible refine wpList_store_rowTo (o := ⟨none, _, _, _, _, _⟩) rfl 26 _ _ rfl rfl (w.heap.size + 1 + 1) (prA (shWith p s c)) rfl rfl 26 _ (HZ1.out).raw (by kernel_rfl) (by kernel_rfl) (by kernel_rfl) ?_))
  refine bodyPost_ret (results_cell_row rfl _ _ (w.heap.size + 1 + 1) 26 _ _ _ rfl HR.out Try.underlying26 rfl (by kernel_rfl)) rfl ?_
  exact ⟨rfl, HBF.out⟩

theorem shWith_closed (p : Peer) : shWith p 0 conn0 = shClosed p := rfl

set_option maxRecDepth 100000 in
set_option maxHeartbeats 4000000 in
theorem osh_closed (p : Peer) (w : World) :
    Calls Try.prog 45 #[prV p] w fun e w' => e = .returned (prV (shClosed p)) ∧ Below w.heap.size w w' := by
  obtain ⟨wa, hwa⟩ : ∃ wa, (w.alloc (.cells (prA p) 26)).alloc (.cells #[.int .i64 0, .int .i64 0, .int .u32 0, .int .u32 0, .int .u32 0, .int .u32 0, .int .i64 0, .int .u32 0, .int .u32 0, .int .u32 0, .int .u32 0, .int .u32 0, .int .u32 0, .bool false, .int .u32 0, .int .u32 0] 26) = wa := ⟨_, rfl⟩
  have hbwa : Below w.heap.size w wa := by rw [← hwa]; exact ((Below.refl _ _).alloc (Nat.le_refl _) _).alloc (by simp) _
  have h0 : Has wa (w.heap.size) 26 (prA p) := by rw [← hwa]; exact ((Has.made _ _ _).beside _)
  have h1 : Has wa (w.heap.size + 1) 26 #[.int .i64 0, .int .i64 0, .int .u32 0, .int .u32 0, .int .u32 0, .int .u32 0, .int .i64 0, .int .u32 0, .int .u32 0, .int .u32 0, .int .u32 0, .int .u32 0, .int .u32 0, .bool false, .int .u32 0, .int .u32 0] := by rw [← hwa]; exact (has_at (by simp))
  have HWA := Lib.hid hwa; have HBWA := Lib.hid hbwa
  have HW := Lib.hid (fun W => osh_with p 0 conn0 W)
  have HP := Lib.hid h0
  have HC := Lib.hid (fun W (hW : Below wa.heap.size wa W) => h1.under hW h1.lt)
  clear hwa hbwa h0 h1
  rw [shWith_closed] at HW
  unfold prV cnV at *
  go_enter Try.func45, Try.ntmps45
  go_upto_region 1 with fail
  rw [HWA.out]
  clear HWA
  go_wp2_with (with_reducible refine wpList_load_row (o := ⟨some 3, _, _, _, _, _⟩) rfl 26 _ rfl (w.heap.size) rfl 26 (prA p) (0, 0) _ (HP.out).raw Try.underlying26 rfl (by kernel_rfl) ?_)
  refine (HW.out _).mono ?_
  rintro e w1 ⟨rfl, hb1⟩
  have hz1 := HC.out w1 hb1
  have HZ1 := Lib.hid hz1
  have HR := Lib.hid (has_setRow7 hz1 (prA (shClosed p)))
  have HBF := Lib.hid (below_row (g := w.heap.size + 1) (HBWA.out.trans (hb1.mono HBWA.out.size)) (by omega) (prA (shClosed p)))
  clear hz1 hb1 HC
  go_wp2_with (with_reducible refine wpList_store_rowTo (o := ⟨none, _, _, _, _, _⟩) rfl 26 _ _ rfl rfl (w.heap.size + 1) (prA (shClosed p)) rfl rfl 26 _ (HZ1.out).raw (by kernel_rfl) (by kernel_rfl) (by kernel_rfl) ?_)
  refine bodyPost_ret (results_cell_row rfl _ _ (w.heap.size + 1) 26 _ _ _ rfl HR.out Try.underlying26 rfl (by kernel_rfl)) rfl ?_
  exact ⟨rfl, HBF.out⟩

set_option maxRecDepth 100000 in
set_option maxHeartbeats 4000000 in
theorem osh_made (k : Key4) (hkk : k.ok) (a b : Nat) (ha : a < 4294967296) (hb : b < 4294967296) (w : World) :
    Calls Try.prog 37 #[keyV k, .int .u32 (a : Nat), .int .u32 (b : Nat)] w fun e w' => e = .returned (cnV ⟨a, b, deriveF k a b⟩) ∧ Below w.heap.size w w' := by
  obtain ⟨wa, hwa⟩ : ∃ wa, (w.alloc (.cells (keyA k) 24)).alloc (.cells #[.int .u32 0, .int .u32 0, .int .u32 0, .int .u32 0, .int .u32 0, .int .u32 0] 58) = wa := ⟨_, rfl⟩
  have hbwa : Below w.heap.size w wa := by rw [← hwa]; exact ((Below.refl _ _).alloc (Nat.le_refl _) _).alloc (by simp) _
  have h0 : Has wa (w.heap.size) 24 (keyA k) := by rw [← hwa]; exact ((Has.made _ _ _).beside _)
  have h1 : Has wa (w.heap.size + 1) 58 #[.int .u32 0, .int .u32 0, .int .u32 0, .int .u32 0, .int .u32 0, .int .u32 0] := by rw [← hwa]; exact (has_at (by simp))
  have HWA := Lib.hid hwa; have HBWA := Lib.hid hbwa
  have HD := Lib.hid (fun W => omc_derive k hkk a b ha hb W)
  have HC := Lib.hid (fun W (hW : Below wa.heap.size wa W) => h1.under hW h1.lt)
  obtain ⟨k0, k1, k2, k3⟩ := key_cells (k := k) h0
  clear hwa hbwa h0 h1
  obtain ⟨dk, hdk⟩ : ∃ dk, deriveF k a b = dk := ⟨_, rfl⟩
  rw [hdk] at HD ⊢
  clear hdk
  unfold keyV keyA at *
  go_enter Try.func37, Try.ntmps37
  go_upto_region 1 with fail
  rw [HWA.out]
  clear HWA
  go_wp2_with fail
  refine (HD.out _).mono ?_
  rintro e w1 ⟨rfl, hb1⟩
  have hz1 := HC.out w1 hb1
  have HZ1 := Lib.hid hz1
  have HR := Lib.hid (has_setRow7 hz1 (cnA ⟨a, b, dk⟩))
  have HBF := Lib.hid (below_row (g := w.heap.size + 1) (HBWA.out.trans (hb1.mono HBWA.out.size)) (by omega) (cnA ⟨a, b, dk⟩))
  clear hz1 hb1 HC
  go_wp2_with (with_reducible refine wpList_store_rowTo (o := ⟨none, _, _, _, _, _⟩) rfl 58 _ _ rfl rfl (w.heap.size + 1) (cnA ⟨a, b, dk⟩) rfl rfl 58 _ (HZ1.out).raw (by kernel_rfl) (by kernel_rfl) (by kernel_rfl) ?_)
  refine bodyPost_ret (results_cell_row rfl _ _ (w.heap.size + 1) 58 _ _ _ rfl HR.out Try.underlying58 rfl (by kernel_rfl)) rfl ?_
  exact ⟨rfl, HBF.out⟩
end Go.Proofs.Ytekcnmimfhiblaa
