/-
  package packet's encoder: number, at a packet's number, at its length, at any other variable.
-/
import Derived.Test.YtamnhnleipnhdaaDoorEnc

namespace Go.Proofs.YtamnhnleipnhdaaDoor

open Go.RowKit

theorem total_bounds {l : List (Int × Int)} (h : ∀ x ∈ l, 0 ≤ x.2 ∧ x.2 ≤ 64) : 0 ≤ totalOf l ∧ totalOf l ≤ 64 * l.length := by
  induction l with
  | nil => simp [totalOf]
  | cons x l ih =>
    have h1 := h x (by simp)
    have h2 := ih (fun y hy => h y (by simp [hy]))
    rw [total_cons, List.length_cons]
    omega
theorem widthOf_le (v : Int) : (widthOf v : Int) ≤ 64 := by have := width_le v; omega
set_option maxRecDepth 100000 in
set_option maxHeartbeats 4000000 in
theorem enum_five (base lo hi g : Nat) (id : Int) (s : WS) (w : World) (h : EnAt base lo hi g id w s) (hwd : Wd w) (hout : s.out.length ≤ 1000000) :
    Calls Tryd.prog 58 #[.pointer (some ⟨g, 0, none⟩), .int .i64 5] w fun e w' => e = .returned (.int .i64 id) ∧ EnAt base lo hi g id w' { s with out := s.out ++ [(id, (widthOf 5 : Int))] } ∧ FrZ base lo hi w w' := by
  obtain ⟨kw, hkw⟩ : ∃ kw, widthOf 5 = kw := ⟨_, rfl⟩
  have hkl : kw ≤ 32 := by rw [← hkw]; exact width_le _
  have HWA := Lib.hid (fun W (hW : Wd W) => (show Calls Tryd.prog 56 #[.int .i64 5] W fun e w' => e = .returned (.int .i64 (kw : Int)) ∧ W = w' from by rw [← hkw]; exact width_any 5 W hW))
  rw [hkw]
  clear hkw
  have HX := Lib.hid h; have HWX := Lib.hid hwd; have HFX := Lib.hid (FrZ.refl base lo hi w); have HOUT := Lib.hid hout
  have q0 : w.cell? ⟨g, 0, none⟩ = some (.int .i64 id) := by obtain ⟨AV, nV, cV, AO, nO, cO, hh, _⟩ := h.mem; rw [hh.cell]; rfl
  clear h hwd hout
  obtain ⟨AV, nV, cV, AO, nO, cO, hh, hr⟩ := HX.out.mem
  have HC := Lib.hid (HWA.out w HWX.out)
  have hkm : (0 : Int) ≤ (kw : Int) ∧ (kw : Int) ≤ 64 := by omega
  have hlo : s.out.length = nO := hr.len
  have htb : 0 ≤ totalOf s.out ∧ totalOf s.out ≤ 64 * (s.out.length : Int) := total_bounds hr.wid
  try simp only at hh
  have hno : nO ≤ 1048576 := by have : s.out.length ≤ 1000000 := HOUT.out; omega
  obtain ⟨T, hT⟩ : ∃ T, totalOf s.out = T := ⟨_, rfl⟩
  rw [hT] at hh htb
  have hT0 : 0 ≤ T := htb.1
  have hT1 : T ≤ 67108864 := by have := htb.2; omega
  have q2 : w.cell? ⟨g, 2, none⟩ = some (.slice AO nO cO) := by rw [hh.cell]; rfl
  have hbl : Below w.heap.size w (w.alloc (.cells #[.int .i64 id, .int .i64 (kw : Int)] 53)) := (Below.refl _ _).alloc (Nat.le_refl _) _
  have hbsz := HX.out.sz
  have HL := Lib.hid (And.intro (hh.under hbl hh.lt) (hr.under hbl hbsz.1))
  have HFL := Lib.hid (frz_call (lo := lo) hbl hbsz.1 hbsz.2)
  have hO3 := Lib.hid (HL.out.2.o)
  have hN := Lib.hid (show ([.int .i64 id, .int .i64 (kw : Int)] : List Value).length = 1 * 2 from rfl)
  have hC := cell_news w #[.int .i64 id, .int .i64 (kw : Int)] 53 [.int .i64 id, .int .i64 (kw : Int)] rfl
  have h1c : Hid (∀ u ∈ ([.int .i64 id, .int .i64 (kw : Int)] : List Value), u.oneCell' = true) := by
    intro u hu
    simp only [List.mem_cons, List.not_mem_nil, or_false] at hu
    rcases hu with rfl | rfl <;> rfl
  have hBD : Hid (nO + 1 ≤ maxLen ∧ (nO + 1) * 16 ≤ 140737488355328 ∧ base ≤ (w.alloc (.cells #[.int .i64 id, .int .i64 (kw : Int)] 53)).heap.size) := Lib.hid ⟨by unfold maxLen; omega, by omega, Nat.le_trans hbsz.1 hbl.size⟩
  have HT := Lib.hid hT; have HKM := Lib.hid hkm; have HHL := Lib.hid (Nat.le_trans hbsz.2 hbl.size)
  clear hh hr hbl hbsz hT hkm htb hno hlo HWX HWA
  go_enter Tryd.func58, Tryd.ntmps58
  go_wp2_with fail
  refine HC.out.mono ?_
  rintro e w' ⟨rfl, rfl⟩
  go_wp2_with (with_reducible refine wpList_push2 (o := ⟨some 37, _, _, _, _, _⟩) rfl (.tmp 32) (.tmp 36) 48 rfl base 53 (.agg #[.int .i64 0, .int .i64 0]) 2 16 Tryd.underlying48 info_bits ?hz (by decide) AO nO cO (pairs s.out) ?hs hO3 ⟨w.heap.size, 0, none⟩ 1 1 [.int .i64 id, .int .i64 (kw : Int)] ?hx hN hC h1c hBD ?next)
  all_goals try rfl
  case next =>
    intro A4 c4 w4 ho4 hg4 hb4
    obtain ⟨hr4, hf4⟩ := HL.out.2.grow hBD.out.2.2 HHL.out id kw HKM.out A4 c4 ho4.out hg4.out (by rw [show (w.alloc (.cells #[.int .i64 id, .int .i64 (kw : Int)] 53)).heap.size = w.heap.size + 1 by simp]; exact hb4.out)
    have hh4 : Has w4 g 91 _ := HL.out.1.grow hg4.out (fun e => own_apart HL.out.2.o HL.out.1 (by decide) e.symm)
    have z2 := hh4.thaw 2
    have q22 : w4.cell? ⟨g, 2, none⟩ = some (.slice AO nO cO) := by rw [hh4.cell]; rfl
    have hs1' := hh4.stored 2 (.slice A4 (nO + 1) c4)
    have z3 := hs1'.thaw 3
    have q3 : (w4.setCell ⟨g, 2, none⟩ (.slice A4 (nO + 1) c4)).cell? ⟨g, 3, none⟩ = some (.int .i64 T) := by rw [hs1'.cell]; rfl
    clear hs1'
    have hB4 : base ≤ w4.heap.size := Nat.le_trans hBD.out.2.2 hf4.b.size
    have HR4 := Lib.hid hr4; have HF4 := Lib.hid (HFX.out.trans (HFL.out.trans hf4)); have HH4 := Lib.hid hh4; have HHI4 := Lib.hid (Nat.le_trans HHL.out hf4.b.size)
    clear hr4 hf4 hh4 ho4 hg4 hb4 HFL HFX HL
    go_wp2
    go_ret
    have hs1 := HH4.out.stored 2 (.slice A4 (nO + 1) c4)
    have f1 := en_store (lo := lo) (hi := hi) HH4.out HX.out.gb HX.out.gz hB4 2 (.slice A4 (nO + 1) c4)
    have r1 := HR4.out.store HH4.out HX.out.gb hB4 2 (.slice A4 (nO + 1) c4)
    have hB5 : base ≤ (w4.setCell ⟨g, 2, none⟩ (.slice A4 (nO + 1) c4)).heap.size := Nat.le_trans hB4 f1.b.size
    have f2 := en_store (lo := lo) (hi := hi) hs1 HX.out.gb HX.out.gz hB5 3 (.int .i64 (T + kw))
    have r2 := r1.store hs1 HX.out.gb hB5 3 (.int .i64 (T + kw))
    have hf := HF4.out.trans (f1.trans f2)
    refine ⟨rfl, ⟨HX.out.gb, HX.out.gz, ⟨Nat.le_trans hB5 f2.b.size, Nat.le_trans HHI4.out (f1.trans f2).b.size⟩, HX.out.rd, AV, nV, cV, A4, nO + 1, c4, ?_, r2⟩, hf⟩
    have e1 : totalOf (s.out ++ [(id, (kw : Int))]) = T + kw := by rw [total_snoc, HT.out]
    rw [e1]
    exact hs1.stored 3 _
set_option maxRecDepth 100000 in
set_option maxHeartbeats 4000000 in
theorem enum_seven (base lo hi g : Nat) (id : Int) (s : WS) (w : World) (h : EnAt base lo hi g id w s) (hwd : Wd w) (hgb : 0 < base) (hout : s.out.length ≤ 1000000) :
    Calls Tryd.prog 58 #[.pointer (some ⟨g, 0, none⟩), .int .i64 7] w fun e w' => e = .returned (.int .i64 0) ∧ EnAt base lo hi g id w' { s with place := s.out.length, out := s.out ++ [(0, (widthOf 7 : Int))] } ∧ FrZ base lo hi w w' := by
  obtain ⟨kw, hkw⟩ : ∃ kw, widthOf 7 = kw := ⟨_, rfl⟩
  have hkl : kw ≤ 32 := by rw [← hkw]; exact width_le _
  have HWA := Lib.hid (fun W (hW : Wd W) => (show Calls Tryd.prog 56 #[.int .i64 7] W fun e w' => e = .returned (.int .i64 (kw : Int)) ∧ W = w' from by rw [← hkw]; exact width_any 7 W hW))
  rw [hkw]
  clear hkw
  have hq : ∃ (AO : Option Addr) (nO cO : Nat), w.cell? ⟨g, 2, none⟩ = some (.slice AO nO cO) ∧ w.cell? ⟨g, 4, none⟩ = some (.int .i64 s.place) ∧ w.frozen? ⟨g, 4, none⟩ = false ∧ s.out.length = nO ∧ EnAt base lo hi g id (w.setCell ⟨g, 4, none⟩ (.int .i64 nO)) { s with place := s.out.length } ∧ FrZ base lo hi w (w.setCell ⟨g, 4, none⟩ (.int .i64 nO)) := by
    obtain ⟨AV, nV, cV, AO, nO, cO, hh, hr⟩ := h.mem
    have f := en_store (lo := lo) (hi := hi) hh h.gb h.gz h.sz.1 4 (.int .i64 nO)
    have r := hr.store hh h.gb h.sz.1 4 (.int .i64 nO)
    refine ⟨AO, nO, cO, by rw [hh.cell]; rfl, by rw [hh.cell]; rfl, hh.thaw 4, hr.len, ⟨h.gb, h.gz, ⟨Nat.le_trans h.sz.1 f.b.size, Nat.le_trans h.sz.2 f.b.size⟩, h.rd, AV, nV, cV, AO, nO, cO, ?_, ⟨r.v, r.len, r.o, r.oz, r.wid⟩⟩, f⟩
    have := hh.stored 4 (.int .i64 nO)
    show Has _ g _ #[.int .i64 id, .slice AV nV cV, .slice AO nO cO, .int .i64 (totalOf s.out), .int .i64 (s.out.length : Int)]
    rw [hr.len]
    exact this
  obtain ⟨AO0, nO0, cO0, p2, p4, z4, hlen0, hx, hfx⟩ := hq
  have HX := Lib.hid hx; have HWX := Lib.hid (hwd.frz hgb hfx); have HFX := Lib.hid hfx; have HOUT := Lib.hid hout; have HLN0 := Lib.hid hlen0
  clear h hwd hout hx hfx hlen0
  obtain ⟨w1, hw1⟩ : ∃ w1, w.setCell ⟨g, 4, none⟩ (.int .i64 nO0) = w1 := ⟨_, rfl⟩
  rw [hw1] at HX HWX HFX
  obtain ⟨AV, nV, cV, AO, nO, cO, hh, hr⟩ := HX.out.mem
  have HC := Lib.hid (HWA.out w1 HWX.out)
  have hkm : (0 : Int) ≤ (kw : Int) ∧ (kw : Int) ≤ 64 := by omega
  have hlo : s.out.length = nO := hr.len
  have htb : 0 ≤ totalOf s.out ∧ totalOf s.out ≤ 64 * (s.out.length : Int) := total_bounds hr.wid
  try simp only at hh
  have hno : nO ≤ 1048576 := by have : s.out.length ≤ 1000000 := HOUT.out; omega
  obtain ⟨T, hT⟩ : ∃ T, totalOf s.out = T := ⟨_, rfl⟩
  rw [hT] at hh htb
  have hT0 : 0 ≤ T := htb.1
  have hT1 : T ≤ 67108864 := by have := htb.2; omega
  have q2 : w1.cell? ⟨g, 2, none⟩ = some (.slice AO nO cO) := by rw [hh.cell]; rfl
  have hbl : Below w1.heap.size w1 (w1.alloc (.cells #[.int .i64 0, .int .i64 (kw : Int)] 53)) := (Below.refl _ _).alloc (Nat.le_refl _) _
  have hbsz := HX.out.sz
  have HL := Lib.hid (And.intro (hh.under hbl hh.lt) (hr.under hbl hbsz.1))
  have HFL := Lib.hid (frz_call (lo := lo) hbl hbsz.1 hbsz.2)
  have hO3 := Lib.hid (HL.out.2.o)
  have hN := Lib.hid (show ([.int .i64 0, .int .i64 (kw : Int)] : List Value).length = 1 * 2 from rfl)
  have hC := cell_news w1 #[.int .i64 0, .int .i64 (kw : Int)] 53 [.int .i64 0, .int .i64 (kw : Int)] rfl
  have h1c : Hid (∀ u ∈ ([.int .i64 0, .int .i64 (kw : Int)] : List Value), u.oneCell' = true) := by
    intro u hu
    simp only [List.mem_cons, List.not_mem_nil, or_false] at hu
    rcases hu with rfl | rfl <;> rfl
  have hBD : Hid (nO + 1 ≤ maxLen ∧ (nO + 1) * 16 ≤ 140737488355328 ∧ base ≤ (w1.alloc (.cells #[.int .i64 0, .int .i64 (kw : Int)] 53)).heap.size) := Lib.hid ⟨by unfold maxLen; omega, by omega, Nat.le_trans hbsz.1 hbl.size⟩
  have HT := Lib.hid hT; have HKM := Lib.hid hkm; have HHL := Lib.hid (Nat.le_trans hbsz.2 hbl.size)
  clear hh hr hbl hbsz hT hkm htb hno hlo HWX HWA
  have HW1 := Lib.hid hw1
  clear hw1
  go_enter Tryd.func58, Tryd.ntmps58
  go_wp2_with fail
  rw [HW1.out]
  refine HC.out.mono ?_
  rintro e w' ⟨rfl, rfl⟩
  go_wp2_with (with_reducible refine wpList_push2 (o := ⟨some 37, _, _, _, _, _⟩) rfl (.tmp 32) (.tmp 36) 48 rfl base 53 (.agg #[.int .i64 0, .int .i64 0]) 2 16 Tryd.underlying48 info_bits ?hz (by decide) AO nO cO (pairs s.out) ?hs hO3 ⟨w1.heap.size, 0, none⟩ 1 1 [.int .i64 0, .int .i64 (kw : Int)] ?hx hN hC h1c hBD ?next)
  all_goals try rfl
  case next =>
    intro A4 c4 w4 ho4 hg4 hb4
    obtain ⟨hr4, hf4⟩ := HL.out.2.grow hBD.out.2.2 HHL.out 0 kw HKM.out A4 c4 ho4.out hg4.out (by rw [show (w1.alloc (.cells #[.int .i64 0, .int .i64 (kw : Int)] 53)).heap.size = w1.heap.size + 1 by simp]; exact hb4.out)
    have hh4 : Has w4 g 91 _ := HL.out.1.grow hg4.out (fun e => own_apart HL.out.2.o HL.out.1 (by decide) e.symm)
    have z2 := hh4.thaw 2
    have q22 : w4.cell? ⟨g, 2, none⟩ = some (.slice AO nO cO) := by rw [hh4.cell]; rfl
    have hs1' := hh4.stored 2 (.slice A4 (nO + 1) c4)
    have z3 := hs1'.thaw 3
    have q3 : (w4.setCell ⟨g, 2, none⟩ (.slice A4 (nO + 1) c4)).cell? ⟨g, 3, none⟩ = some (.int .i64 T) := by rw [hs1'.cell]; rfl
    clear hs1'
    have hB4 : base ≤ w4.heap.size := Nat.le_trans hBD.out.2.2 hf4.b.size
    have HR4 := Lib.hid hr4; have HF4 := Lib.hid (HFX.out.trans (HFL.out.trans hf4)); have HH4 := Lib.hid hh4; have HHI4 := Lib.hid (Nat.le_trans HHL.out hf4.b.size)
    clear hr4 hf4 hh4 ho4 hg4 hb4 HFL HFX HL
    go_wp2
    go_ret
    have hs1 := HH4.out.stored 2 (.slice A4 (nO + 1) c4)
    have f1 := en_store (lo := lo) (hi := hi) HH4.out HX.out.gb HX.out.gz hB4 2 (.slice A4 (nO + 1) c4)
    have r1 := HR4.out.store HH4.out HX.out.gb hB4 2 (.slice A4 (nO + 1) c4)
    have hB5 : base ≤ (w4.setCell ⟨g, 2, none⟩ (.slice A4 (nO + 1) c4)).heap.size := Nat.le_trans hB4 f1.b.size
    have f2 := en_store (lo := lo) (hi := hi) hs1 HX.out.gb HX.out.gz hB5 3 (.int .i64 (T + kw))
    have r2 := r1.store hs1 HX.out.gb hB5 3 (.int .i64 (T + kw))
    have hf := HF4.out.trans (f1.trans f2)
    refine ⟨rfl, ⟨HX.out.gb, HX.out.gz, ⟨Nat.le_trans hB5 f2.b.size, Nat.le_trans HHI4.out (f1.trans f2).b.size⟩, HX.out.rd, AV, nV, cV, A4, nO + 1, c4, ?_, r2⟩, hf⟩
    have e1 : totalOf (s.out ++ [(0, (kw : Int))]) = T + kw := by rw [total_snoc, HT.out]
    rw [e1]
    exact hs1.stored 3 _
set_option maxRecDepth 100000 in
set_option maxHeartbeats 4000000 in
theorem enum_other (base lo hi g : Nat) (id : Int) (v : Nat) (h5 : v ≠ 5) (h7 : v ≠ 7) (s : WS) (V0 : Int) (VT : List Int) (hV : s.V = V0 :: VT) (w : World) (h : EnAt base lo hi g id w s) (hwd : Wd w) (hgb : 0 < base) (hout : s.out.length ≤ 1000000) :
    Calls Tryd.prog 58 #[.pointer (some ⟨g, 0, none⟩), .int .i64 (v : Int)] w fun e w' => e = .returned (.int .i64 V0) ∧ EnAt base lo hi g id w' { s with V := VT, out := s.out ++ [(V0, (widthOf v : Int))] } ∧ FrZ base lo hi w w' := by
  obtain ⟨kw, hkw⟩ : ∃ kw, widthOf v = kw := ⟨_, rfl⟩
  have hkl : kw ≤ 32 := by rw [← hkw]; exact width_le _
  have HWA := Lib.hid (fun W (hW : Wd W) => (show Calls Tryd.prog 56 #[.int .i64 v] W fun e w' => e = .returned (.int .i64 (kw : Int)) ∧ W = w' from by rw [← hkw]; exact width_any v W hW))
  rw [hkw]
  clear hkw
  have HN := Lib.hid (next_some base lo hi g id s V0 VT w h hV)
  have HOUT := Lib.hid hout; have HWD := Lib.hid hwd
  have e5 : ((v : Int) == 5) = false := by rw [beq_eq_false_iff_ne]; omega
  have e7 : ((v : Int) == 7) = false := by rw [beq_eq_false_iff_ne]; omega
  clear h hwd hout
  go_enter Tryd.func58, Tryd.ntmps58
  go_wp2_with fail
  refine HN.out.mono ?_
  rintro e w1 ⟨rfl, hx, hfx⟩
  have HX := Lib.hid hx; have HFX := Lib.hid hfx; have HWX := Lib.hid (HWD.out.frz hgb hfx)
  clear hx hfx HN HWD
  obtain ⟨AV, nV, cV, AO, nO, cO, hh, hr⟩ := HX.out.mem
  have HC := Lib.hid (HWA.out w1 HWX.out)
  have hkm : (0 : Int) ≤ (kw : Int) ∧ (kw : Int) ≤ 64 := by omega
  have hlo : s.out.length = nO := hr.len
  have htb : 0 ≤ totalOf s.out ∧ totalOf s.out ≤ 64 * (s.out.length : Int) := total_bounds hr.wid
  try simp only at hh
  have hno : nO ≤ 1048576 := by have : s.out.length ≤ 1000000 := HOUT.out; omega
  obtain ⟨T, hT⟩ : ∃ T, totalOf s.out = T := ⟨_, rfl⟩
  rw [hT] at hh htb
  have hT0 : 0 ≤ T := htb.1
  have hT1 : T ≤ 67108864 := by have := htb.2; omega
  have q2 : w1.cell? ⟨g, 2, none⟩ = some (.slice AO nO cO) := by rw [hh.cell]; rfl
  have hbl : Below w1.heap.size w1 (w1.alloc (.cells #[.int .i64 V0, .int .i64 (kw : Int)] 53)) := (Below.refl _ _).alloc (Nat.le_refl _) _
  have hbsz := HX.out.sz
  have HL := Lib.hid (And.intro (hh.under hbl hh.lt) (hr.under hbl hbsz.1))
  have HFL := Lib.hid (frz_call (lo := lo) hbl hbsz.1 hbsz.2)
  have hO3 := Lib.hid (HL.out.2.o)
  have hN := Lib.hid (show ([.int .i64 V0, .int .i64 (kw : Int)] : List Value).length = 1 * 2 from rfl)
  have hC := cell_news w1 #[.int .i64 V0, .int .i64 (kw : Int)] 53 [.int .i64 V0, .int .i64 (kw : Int)] rfl
  have h1c : Hid (∀ u ∈ ([.int .i64 V0, .int .i64 (kw : Int)] : List Value), u.oneCell' = true) := by
    intro u hu
    simp only [List.mem_cons, List.not_mem_nil, or_false] at hu
    rcases hu with rfl | rfl <;> rfl
  have hBD : Hid (nO + 1 ≤ maxLen ∧ (nO + 1) * 16 ≤ 140737488355328 ∧ base ≤ (w1.alloc (.cells #[.int .i64 V0, .int .i64 (kw : Int)] 53)).heap.size) := Lib.hid ⟨by unfold maxLen; omega, by omega, Nat.le_trans hbsz.1 hbl.size⟩
  have HT := Lib.hid hT; have HKM := Lib.hid hkm; have HHL := Lib.hid (Nat.le_trans hbsz.2 hbl.size)
  clear hh hr hbl hbsz hT hkm htb hno hlo HWX HWA
  go_wp2_with fail
  refine HC.out.mono ?_
  rintro e w' ⟨rfl, rfl⟩
  go_wp2_with (with_reducible refine wpList_push2 (o := ⟨some 37, _, _, _, _, _⟩) rfl (.tmp 32) (.tmp 36) 48 rfl base 53 (.agg #[.int .i64 0, .int .i64 0]) 2 16 Tryd.underlying48 info_bits ?hz (by decide) AO nO cO (pairs s.out) ?hs hO3 ⟨w1.heap.size, 0, none⟩ 1 1 [.int .i64 V0, .int .i64 (kw : Int)] ?hx hN hC h1c hBD ?next)
  all_goals try rfl
  case next =>
    intro A4 c4 w4 ho4 hg4 hb4
    obtain ⟨hr4, hf4⟩ := HL.out.2.grow hBD.out.2.2 HHL.out V0 kw HKM.out A4 c4 ho4.out hg4.out (by rw [show (w1.alloc (.cells #[.int .i64 V0, .int .i64 (kw : Int)] 53)).heap.size = w1.heap.size + 1 by simp]; exact hb4.out)
    have hh4 : Has w4 g 91 _ := HL.out.1.grow hg4.out (fun e => own_apart HL.out.2.o HL.out.1 (by decide) e.symm)
    have z2 := hh4.thaw 2
    have q22 : w4.cell? ⟨g, 2, none⟩ = some (.slice AO nO cO) := by rw [hh4.cell]; rfl
    have hs1' := hh4.stored 2 (.slice A4 (nO + 1) c4)
    have z3 := hs1'.thaw 3
    have q3 : (w4.setCell ⟨g, 2, none⟩ (.slice A4 (nO + 1) c4)).cell? ⟨g, 3, none⟩ = some (.int .i64 T) := by rw [hs1'.cell]; rfl
    clear hs1'
    have hB4 : base ≤ w4.heap.size := Nat.le_trans hBD.out.2.2 hf4.b.size
    have HR4 := Lib.hid hr4; have HF4 := Lib.hid (HFX.out.trans (HFL.out.trans hf4)); have HH4 := Lib.hid hh4; have HHI4 := Lib.hid (Nat.le_trans HHL.out hf4.b.size)
    clear hr4 hf4 hh4 ho4 hg4 hb4 HFL HFX HL
    go_wp2
    go_ret
    have hs1 := HH4.out.stored 2 (.slice A4 (nO + 1) c4)
    have f1 := en_store (lo := lo) (hi := hi) HH4.out HX.out.gb HX.out.gz hB4 2 (.slice A4 (nO + 1) c4)
    have r1 := HR4.out.store HH4.out HX.out.gb hB4 2 (.slice A4 (nO + 1) c4)
    have hB5 : base ≤ (w4.setCell ⟨g, 2, none⟩ (.slice A4 (nO + 1) c4)).heap.size := Nat.le_trans hB4 f1.b.size
    have f2 := en_store (lo := lo) (hi := hi) hs1 HX.out.gb HX.out.gz hB5 3 (.int .i64 (T + kw))
    have r2 := r1.store hs1 HX.out.gb hB5 3 (.int .i64 (T + kw))
    have hf := HF4.out.trans (f1.trans f2)
    refine ⟨rfl, ⟨HX.out.gb, HX.out.gz, ⟨Nat.le_trans hB5 f2.b.size, Nat.le_trans HHI4.out (f1.trans f2).b.size⟩, HX.out.rd, AV, nV, cV, A4, nO + 1, c4, ?_, r2⟩, hf⟩
    have e1 : totalOf (s.out ++ [(V0, (kw : Int))]) = T + kw := by rw [total_snoc, HT.out]
    rw [e1]
    exact hs1.stored 3 _
set_option maxRecDepth 100000 in
set_option maxHeartbeats 4000000 in
theorem enum_none (base lo hi g : Nat) (id : Int) (v : Nat) (h5 : v ≠ 5) (h7 : v ≠ 7) (s : WS) (hV : s.V = []) (w : World) (h : EnAt base lo hi g id w s) :
    Calls Tryd.prog 58 #[.pointer (some ⟨g, 0, none⟩), .int .i64 (v : Int)] w fun e w' => e = panE 20 ∧ FrZ base lo hi w w' := by
  have HN := Lib.hid (next_nil base lo hi g id s w h hV)
  have e5 : ((v : Int) == 5) = false := by rw [beq_eq_false_iff_ne]; omega
  have e7 : ((v : Int) == 7) = false := by rw [beq_eq_false_iff_ne]; omega
  clear h
  unfold panE at *
  go_enter Tryd.func58, Tryd.ntmps58
  go_wp2_with fail
  refine HN.out.mono ?_
  rintro e w1 ⟨rfl, rfl⟩
  go_wp2
  exact ⟨rfl, rfl, FrZ.refl _ _ _ _⟩
end Go.Proofs.YtamnhnleipnhdaaDoor
