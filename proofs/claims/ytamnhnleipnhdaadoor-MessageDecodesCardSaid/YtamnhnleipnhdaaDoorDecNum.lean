/-
  package packet's decoder: number, at a packet's number, at its length, at any other variable.
-/
import Derived.Test.YtamnhnleipnhdaaDoorDec

namespace Go.Proofs.YtamnhnleipnhdaaDoor

open Go.RowKit

open BitsM

set_option maxRecDepth 100000 in
set_option maxHeartbeats 4000000 in
theorem dnum_five (base lo hi g gr : Nat) (p0 : Int) (s : WS) (w : World) (h : DeAt base lo hi g gr p0 w s) (hwd : Wd w) (hs : ¬ s.bits.length < widthOf 5) :
    Calls Tryd.prog 91 #[.pointer (some ⟨g, 0, none⟩), .int .i64 5] w fun e w' => e = .returned (.int .i64 (num (s.bits.take (widthOf 5)) : Nat)) ∧ DeAt base lo hi g gr p0 w' (keep 5 (num (s.bits.take (widthOf 5)) : Nat) { s with bits := s.bits.drop (widthOf 5) }) ∧ FrZ base lo hi w w' := by
  obtain ⟨k1, k2⟩ := width_one 5 (by omega) (by omega)
  obtain ⟨kw, hkw⟩ : ∃ kw, widthOf 5 = kw := ⟨_, rfl⟩
  have HWA := Lib.hid (fun W (hW : Wd W) => (show Calls Tryd.prog 56 #[.int .i64 5] W fun e w' => e = .returned (.int .i64 (kw : Int)) ∧ W = w' from by rw [← hkw]; exact width_any 5 W hW))
  have hkp : ∀ (n : Int) (S : WS), keep 5 n S = { S with out := S.out ++ [(n, (kw : Int))] } := fun n S => by rw [keep, if_neg (by decide), if_pos rfl, hkw]
  rw [hkp]
  rw [hkw] at hs k1 k2 ⊢
  obtain ⟨xs, p, AG, nG, cG, L, hh, hr⟩ := h.mem
  have hsl : p + kw ≤ 8 * xs.length := by rw [hr.bits, restOf_length] at hs; omega
  have hg := get_any gr xs p kw w.drew (isR_draws hr.r 1)
  obtain ⟨e1, e2, e3⟩ := got_yes (xs := xs) (p := p) (k := (kw : Int)) (by omega) (by omega) (by rw [Int.toNat_natCast]; exact hsl)
  rw [e1, e2, e3, Int.toNat_natCast] at hg
  obtain ⟨rt, rd⟩ := restOf_take xs p kw hsl
  rw [hr.bits, rt, rd] 
  obtain ⟨N, hN⟩ : ∃ N, num (bitsFrom xs p kw) = N := ⟨_, rfl⟩
  have hNb : N < 4294967296 := by
    have h1 := num_lt (bitsFrom xs p kw)
    rw [bitsFrom_length, hN] at h1
    have h2 : (2 : Nat) ^ kw ≤ 2 ^ 32 := Nat.pow_le_pow_right (by omega) k2
    omega
  rw [hN] at hg ⊢
  have HG := Lib.hid hg; have HH := Lib.hid hh; have HR := Lib.hid hr; have HX := Lib.hid h
  have q0 : w.cell? ⟨g, 0, none⟩ = some (.pointer (some ⟨gr, 0, none⟩)) := by rw [hh.cell]; rfl
  have HWD : Hid (Wd w.drew) := hwd
  have hxl : xs.length ≤ 1048576 := by obtain ⟨g2, _, _, _, _, h5, _⟩ := hr.r; exact h5
  have HSL := Lib.hid hsl; have HXL := Lib.hid hxl
  clear hg hh hr h hs hsl hkw e1 e2 e3 hwd rt rd hN hxl
  clear hkp
  go_enter Tryd.func91, Tryd.ntmps91
  go_upto_region 1 with fail
  go_cut [5, 6] (fun s5 s6 wc => s5 = .int .i64 (N : Int) ∧ s6 = .int .i64 0 ∧ IsR wc gr xs (p + kw) ∧ w.grownBy wc (some gr))
  case first =>
    go_region_with (first
      | (go_at_call 56; refine (HWA.out w.drew HWD.out).mono ?_; rintro e w3 ⟨rfl, rfl⟩)
      | (go_at_call 44; refine HG.out.mono ?_; rintro e w4 ⟨rfl, hr4, hg4⟩))
    all_goals
      go_wp2_with fail
      go_meet
      exact ⟨rfl, rfl, hr4, only_trans (only_draw (only_refl w _)) hg4⟩
  case rest =>
    obtain ⟨rfl, rfl, hr4, hg4⟩ := hcut
    obtain ⟨hh4, ho4, hf4⟩ := de_read HX.out HH.out HR.out hg4
    have hsz : base ≤ wc.heap.size ∧ hi ≤ wc.heap.size := ⟨Nat.le_trans HX.out.sz.1 hf4.b.size, Nat.le_trans HX.out.sz.2 hf4.b.size⟩
    have hat : ((p + kw : Nat) : Int) = p0 + (totalOf s.out + (kw : Int)) := by have := HR.out.at_; omega
    have HR4 := Lib.hid hr4; have HH4 := Lib.hid hh4; have HO4 := Lib.hid ho4; have HF4 := Lib.hid hf4; have HSZ := Lib.hid hsz; have HAT := Lib.hid hat
    clear hr4 hg4 hh4 ho4 hf4 hsz hat HG
    go_wp2
    go_ret
    refine ⟨rfl, ⟨HX.out.gb, HX.out.gz, HX.out.rb, HX.out.rz, HX.out.ne, HSZ.out, HX.out.rd, xs, p + kw, AG, nG, cG, L, HH4.out, ⟨HR4.out, rfl, ?_, HR.out.len, HO4.out, HR.out.gz, fun i hi1 hi2 => ?_⟩⟩, HF4.out⟩
    · show _ = p0 + totalOf (s.out ++ [((N : Int), (kw : Int))])
      rw [total_snoc]; exact HAT.out
    · obtain ⟨a1, a2⟩ := HR.out.seen i hi1 hi2
      refine ⟨by show i < (s.out ++ [((N : Int), (kw : Int))]).length; rw [List.length_append]; omega, ?_⟩
      show L = ((s.out ++ [((N : Int), (kw : Int))]).getD i (0, 0)).1
      rw [List.getD_eq_getElem?_getD, List.getElem?_append_left a1, ← List.getD_eq_getElem?_getD]; exact a2
set_option maxRecDepth 100000 in
set_option maxHeartbeats 4000000 in
theorem dnum_seven (base lo hi g gr : Nat) (p0 : Int) (s : WS) (w : World) (h : DeAt base lo hi g gr p0 w s) (hwd : Wd w) (hs : ¬ s.bits.length < widthOf 7) :
    Calls Tryd.prog 91 #[.pointer (some ⟨g, 0, none⟩), .int .i64 7] w fun e w' => e = .returned (.int .i64 (num (s.bits.take (widthOf 7)) : Nat)) ∧ DeAt base lo hi g gr p0 w' (keep 7 (num (s.bits.take (widthOf 7)) : Nat) { s with bits := s.bits.drop (widthOf 7) }) ∧ FrZ base lo hi w w' := by
  obtain ⟨k1, k2⟩ := width_one 7 (by omega) (by omega)
  obtain ⟨kw, hkw⟩ : ∃ kw, widthOf 7 = kw := ⟨_, rfl⟩
  have HWA := Lib.hid (fun W (hW : Wd W) => (show Calls Tryd.prog 56 #[.int .i64 7] W fun e w' => e = .returned (.int .i64 (kw : Int)) ∧ W = w' from by rw [← hkw]; exact width_any 7 W hW))
  have hkp : ∀ (n : Int) (S : WS), keep 7 n S = { S with place := S.out.length, out := S.out ++ [(n, (kw : Int))] } := fun n S => by rw [keep, if_pos rfl, hkw]
  rw [hkp]
  rw [hkw] at hs k1 k2 ⊢
  obtain ⟨xs, p, AG, nG, cG, L, hh, hr⟩ := h.mem
  have hsl : p + kw ≤ 8 * xs.length := by rw [hr.bits, restOf_length] at hs; omega
  have hg := get_any gr xs p kw w.drew (isR_draws hr.r 1)
  obtain ⟨e1, e2, e3⟩ := got_yes (xs := xs) (p := p) (k := (kw : Int)) (by omega) (by omega) (by rw [Int.toNat_natCast]; exact hsl)
  rw [e1, e2, e3, Int.toNat_natCast] at hg
  obtain ⟨rt, rd⟩ := restOf_take xs p kw hsl
  rw [hr.bits, rt, rd] 
  obtain ⟨N, hN⟩ : ∃ N, num (bitsFrom xs p kw) = N := ⟨_, rfl⟩
  have hNb : N < 4294967296 := by
    have h1 := num_lt (bitsFrom xs p kw)
    rw [bitsFrom_length, hN] at h1
    have h2 : (2 : Nat) ^ kw ≤ 2 ^ 32 := Nat.pow_le_pow_right (by omega) k2
    omega
  rw [hN] at hg ⊢
  have HG := Lib.hid hg; have HH := Lib.hid hh; have HR := Lib.hid hr; have HX := Lib.hid h
  have q0 : w.cell? ⟨g, 0, none⟩ = some (.pointer (some ⟨gr, 0, none⟩)) := by rw [hh.cell]; rfl
  have HWD : Hid (Wd w.drew) := hwd
  have hxl : xs.length ≤ 1048576 := by obtain ⟨g2, _, _, _, _, h5, _⟩ := hr.r; exact h5
  have HSL := Lib.hid hsl; have HXL := Lib.hid hxl
  clear hg hh hr h hs hsl hkw e1 e2 e3 hwd rt rd hN hxl
  clear hkp
  go_enter Tryd.func91, Tryd.ntmps91
  go_upto_region 1 with fail
  go_cut [5, 6] (fun s5 s6 wc => s5 = .int .i64 (N : Int) ∧ s6 = .int .i64 0 ∧ IsR wc gr xs (p + kw) ∧ w.grownBy wc (some gr))
  case first =>
    go_region_with (first
      | (go_at_call 56; refine (HWA.out w.drew HWD.out).mono ?_; rintro e w3 ⟨rfl, rfl⟩)
      | (go_at_call 44; refine HG.out.mono ?_; rintro e w4 ⟨rfl, hr4, hg4⟩))
    all_goals
      go_wp2_with fail
      go_meet
      exact ⟨rfl, rfl, hr4, only_trans (only_draw (only_refl w _)) hg4⟩
  case rest =>
    obtain ⟨rfl, rfl, hr4, hg4⟩ := hcut
    obtain ⟨hh4, ho4, hf4⟩ := de_read HX.out HH.out HR.out hg4
    have hsz : base ≤ wc.heap.size ∧ hi ≤ wc.heap.size := ⟨Nat.le_trans HX.out.sz.1 hf4.b.size, Nat.le_trans HX.out.sz.2 hf4.b.size⟩
    have hat : ((p + kw : Nat) : Int) = p0 + (totalOf s.out + (kw : Int)) := by have := HR.out.at_; omega
    have HR4 := Lib.hid hr4; have HH4 := Lib.hid hh4; have HO4 := Lib.hid ho4; have HF4 := Lib.hid hf4; have HSZ := Lib.hid hsz; have HAT := Lib.hid hat
    clear hr4 hg4 hh4 ho4 hf4 hsz hat HG
    have q2 : wc.cell? ⟨g, 2, none⟩ = some (.int .i64 L) := by rw [HH4.out.cell]; rfl
    have z2 := HH4.out.thaw 2
    go_wp2
    go_ret
    have hgs : wc.grownBy (wc.setCell ⟨g, 2, none⟩ (.int .i64 (N : Int))) (some g) := only_store (only_refl wc (some g)) rfl _
    have f := frz_store (lo := lo) (hi := hi) HH4.out (by decide) HX.out.gb HX.out.gz HSZ.out.1 2 (.int .i64 (N : Int))
    refine ⟨rfl, ⟨HX.out.gb, HX.out.gz, HX.out.rb, HX.out.rz, HX.out.ne, ⟨Nat.le_trans HSZ.out.1 f.b.size, Nat.le_trans HSZ.out.2 f.b.size⟩, HX.out.rd, xs, p + kw, AG, nG, cG, N, HH4.out.stored 2 _, ⟨HR4.out.beside HH4.out (by decide) (by decide) hgs, rfl, ?_, HR.out.len, own_keep HO4.out hgs (own_apart HO4.out HH4.out (by decide)), HR.out.gz, fun i hi1 hi2 => ?_⟩⟩, HF4.out.trans f⟩
    · show _ = p0 + totalOf (s.out ++ [((N : Int), (kw : Int))])
      rw [total_snoc]; exact HAT.out
    · have hi3 : (s.out.length : Int) = i := hi1
      have hi4 : i = s.out.length := by omega
      subst hi4
      refine ⟨by show s.out.length < (s.out ++ [((N : Int), (kw : Int))]).length; rw [List.length_append]; simp, ?_⟩
      show (N : Int) = ((s.out ++ [((N : Int), (kw : Int))]).getD s.out.length (0, 0)).1
      simp [List.getD_eq_getElem?_getD]
set_option maxRecDepth 100000 in
set_option maxHeartbeats 4000000 in
theorem dnum_other (base lo hi g gr : Nat) (p0 : Int) (v : Nat) (hv : v < 96) (h5 : v ≠ 5) (h7 : v ≠ 7) (s : WS) (w : World) (h : DeAt base lo hi g gr p0 w s) (hwd : Wd w) (hs : ¬ s.bits.length < widthOf (v : Int)) (hgo : s.got.length ≤ 1000000) :
    Calls Tryd.prog 91 #[.pointer (some ⟨g, 0, none⟩), .int .i64 (v : Int)] w fun e w' => e = .returned (.int .i64 (num (s.bits.take (widthOf (v : Int))) : Nat)) ∧ DeAt base lo hi g gr p0 w' (keep (v : Int) (num (s.bits.take (widthOf (v : Int))) : Nat) { s with bits := s.bits.drop (widthOf (v : Int)) }) ∧ FrZ base lo hi w w' := by
  obtain ⟨k1, k2⟩ := width_one (v : Int) (by omega) (by omega)
  obtain ⟨kw, hkw⟩ : ∃ kw, widthOf (v : Int) = kw := ⟨_, rfl⟩
  have HWA := Lib.hid (fun W (hW : Wd W) => (show Calls Tryd.prog 56 #[.int .i64 (v : Int)] W fun e w' => e = .returned (.int .i64 (kw : Int)) ∧ W = w' from by rw [← hkw]; exact width_any (v : Int) W hW))
  have k5 : ¬ ((v : Int) = 5) := by omega
  have k7 : ¬ ((v : Int) = 7) := by omega
  have hkp : ∀ (n : Int) (S : WS), keep v n S = { S with got := S.got ++ [n], out := S.out ++ [(n, (kw : Int))] } := fun n S => by rw [keep, if_neg k7, if_neg k5, hkw]
  rw [hkp]
  rw [hkw] at hs k1 k2 ⊢
  obtain ⟨xs, p, AG, nG, cG, L, hh, hr⟩ := h.mem
  have hsl : p + kw ≤ 8 * xs.length := by rw [hr.bits, restOf_length] at hs; omega
  have hg := get_any gr xs p kw w.drew (isR_draws hr.r 1)
  obtain ⟨e1, e2, e3⟩ := got_yes (xs := xs) (p := p) (k := (kw : Int)) (by omega) (by omega) (by rw [Int.toNat_natCast]; exact hsl)
  rw [e1, e2, e3, Int.toNat_natCast] at hg
  obtain ⟨rt, rd⟩ := restOf_take xs p kw hsl
  rw [hr.bits, rt, rd] 
  obtain ⟨N, hN⟩ : ∃ N, num (bitsFrom xs p kw) = N := ⟨_, rfl⟩
  have hNb : N < 4294967296 := by
    have h1 := num_lt (bitsFrom xs p kw)
    rw [bitsFrom_length, hN] at h1
    have h2 : (2 : Nat) ^ kw ≤ 2 ^ 32 := Nat.pow_le_pow_right (by omega) k2
    omega
  rw [hN] at hg ⊢
  have HG := Lib.hid hg; have HH := Lib.hid hh; have HR := Lib.hid hr; have HX := Lib.hid h
  have q0 : w.cell? ⟨g, 0, none⟩ = some (.pointer (some ⟨gr, 0, none⟩)) := by rw [hh.cell]; rfl
  have HWD : Hid (Wd w.drew) := hwd
  have hxl : xs.length ≤ 1048576 := by obtain ⟨g2, _, _, _, _, h5, _⟩ := hr.r; exact h5
  have HSL := Lib.hid hsl; have HXL := Lib.hid hxl
  clear hg hh hr h hs hsl hkw e1 e2 e3 hwd rt rd hN hxl
  clear hkp k5 k7
  have HGO := Lib.hid hgo; clear hgo
  have e5 : ((v : Int) == 5) = false := by rw [beq_eq_false_iff_ne]; omega
  have e7 : ((v : Int) == 7) = false := by rw [beq_eq_false_iff_ne]; omega
  go_enter Tryd.func91, Tryd.ntmps91
  go_upto_region 1 with fail
  go_cut [5, 6] (fun s5 s6 wc => s5 = .int .i64 (N : Int) ∧ s6 = .int .i64 0 ∧ IsR wc gr xs (p + kw) ∧ w.grownBy wc (some gr))
  case first =>
    go_region_with (first
      | (go_at_call 56; refine (HWA.out w.drew HWD.out).mono ?_; rintro e w3 ⟨rfl, rfl⟩)
      | (go_at_call 44; refine HG.out.mono ?_; rintro e w4 ⟨rfl, hr4, hg4⟩))
    all_goals
      go_wp2_with fail
      go_meet
      exact ⟨rfl, rfl, hr4, only_trans (only_draw (only_refl w _)) hg4⟩
  case rest =>
    obtain ⟨rfl, rfl, hr4, hg4⟩ := hcut
    obtain ⟨hh4, ho4, hf4⟩ := de_read HX.out HH.out HR.out hg4
    have hsz : base ≤ wc.heap.size ∧ hi ≤ wc.heap.size := ⟨Nat.le_trans HX.out.sz.1 hf4.b.size, Nat.le_trans HX.out.sz.2 hf4.b.size⟩
    have hat : ((p + kw : Nat) : Int) = p0 + (totalOf s.out + (kw : Int)) := by have := HR.out.at_; omega
    have HR4 := Lib.hid hr4; have HH4 := Lib.hid hh4; have HO4 := Lib.hid ho4; have HF4 := Lib.hid hf4; have HSZ := Lib.hid hsz; have HAT := Lib.hid hat
    clear hr4 hg4 hh4 ho4 hf4 hsz hat HG
    have q1 : wc.cell? ⟨g, 1, none⟩ = some (.slice AG nG cG) := by rw [HH4.out.cell]; rfl
    have hbl : Below wc.heap.size wc (wc.alloc (.cells #[.int .i64 (N : Int)] 3)) := (Below.refl _ _).alloc (Nat.le_refl _) _
    have HL := Lib.hid (HH4.out.under hbl HH4.out.lt); have HRL := Lib.hid (HR4.out.under hbl (Nat.le_refl _))
    have HFL := Lib.hid (HF4.out.trans (frz_call (lo := lo) hbl HSZ.out.1 HSZ.out.2))
    have hO3 := Lib.hid (own_under HO4.out hbl (Nat.le_refl _))
    have hN := Lib.hid (show ([.int .i64 (N : Int)] : List Value).length = 1 * 1 from rfl)
    have hC := cell_news wc #[.int .i64 (N : Int)] 3 [.int .i64 (N : Int)] rfl
    have h1c : Hid (∀ u ∈ ([.int .i64 (N : Int)] : List Value), u.oneCell' = true) := by
      intro u hu
      simp only [List.mem_cons, List.not_mem_nil, or_false] at hu
      subst hu; rfl
    have hng : nG ≤ 1000000 := by have := HR.out.len; have := HGO.out; omega
    have hBD : Hid (nG + 1 ≤ maxLen ∧ (nG + 1) * 8 ≤ 140737488355328 ∧ base ≤ (wc.alloc (.cells #[.int .i64 (N : Int)] 3)).heap.size) := Lib.hid ⟨by unfold maxLen; omega, by omega, Nat.le_trans HSZ.out.1 hbl.size⟩
    have HHL := Lib.hid (Nat.le_trans HSZ.out.2 hbl.size)
    clear hbl HR4 HO4 HF4 HSZ
    go_wp2_with (with_reducible refine wpList_push2 (o := ⟨some 29, _, _, _, _, _⟩) rfl (.tmp 26) (.tmp 28) 22 rfl base 3 (.int .i64 0) 1 8 Tryd.underlying22 info_int ?hz (by decide) AG nG cG (ints s.got) ?hs hO3 ⟨wc.heap.size, 0, none⟩ 1 1 [.int .i64 (N : Int)] ?hx hN hC h1c hBD ?next)
    all_goals try rfl
    case next =>
      intro A5 c5 w5 ho5 hg5 hb5
      have hf5 : FrZ base lo hi _ w5 := frz_grown hO3.out (by decide) hBD.out.2.2 HHL.out hg5.out (Nat.le_refl _) HR.out.gz
      have hh5 : Has w5 g 131 _ := HL.out.grow hg5.out (fun e => own_apart hO3.out HL.out (by decide) e.symm)
      have hr5 := HRL.out.own hO3.out (by decide) (by decide) hg5.out
      have q11 : w5.cell? ⟨g, 1, none⟩ = some (.slice AG nG cG) := by rw [hh5.cell]; rfl
      have z1 := hh5.thaw 1
      have HB5 : Hid (Value.ownBlock (.slice A5 (nG + 1) c5) = Value.ownBlock (.slice AG nG cG) ∨ Value.ownBlock (.slice A5 (nG + 1) c5) = some (wc.alloc (.cells #[.int .i64 (N : Int)] 3)).heap.size) := by rw [show (wc.alloc (.cells #[.int .i64 (N : Int)] 3)).heap.size = wc.heap.size + 1 by simp]; exact hb5
      have HH5 := Lib.hid hh5; have HR5 := Lib.hid hr5; have HF5 := Lib.hid (HFL.out.trans hf5); have HO5 := Lib.hid ho5.out
      have HS5 : Hid (base ≤ w5.heap.size ∧ hi ≤ w5.heap.size) := Lib.hid ⟨Nat.le_trans hBD.out.2.2 hf5.b.size, Nat.le_trans HHL.out hf5.b.size⟩
      clear hf5 hh5 hr5 ho5 hg5 hb5 HFL HL HRL
      go_wp2
      go_ret
      have hgs : w5.grownBy (w5.setCell ⟨g, 1, none⟩ (.slice A5 (nG + 1) c5)) (some g) := only_store (only_refl w5 (some g)) rfl _
      have f := frz_store (lo := lo) (hi := hi) HH5.out (by decide) HX.out.gb HX.out.gz HS5.out.1 1 (.slice A5 (nG + 1) c5)
      refine ⟨rfl, ⟨HX.out.gb, HX.out.gz, HX.out.rb, HX.out.rz, HX.out.ne, ⟨Nat.le_trans HS5.out.1 f.b.size, Nat.le_trans HS5.out.2 f.b.size⟩, HX.out.rd, xs, p + kw, A5, nG + 1, c5, L, HH5.out.stored 1 _, ⟨HR5.out.beside HH5.out (by decide) (by decide) hgs, rfl, ?_, ?_, ?_, fun k hk => ?_, fun i hi1 hi2 => ?_⟩⟩, HF5.out.trans f⟩
      · show _ = p0 + totalOf (s.out ++ [((N : Int), (kw : Int))])
        rw [total_snoc]; exact HAT.out
      · show (s.got ++ [(N : Int)]).length = nG + 1
        rw [List.length_append, HR.out.len]; rfl
      · have h6 := own_keep HO5.out hgs (own_apart HO5.out HH5.out (by decide))
        have e6 : ints (s.got ++ [(N : Int)]) = ints s.got ++ [.int .i64 (N : Int)] := by simp [ints]
        show World.ownsRow _ _ _ _ _ _ (ints (s.got ++ [(N : Int)]))
        rw [e6]; exact h6
      · rcases HB5.out with e | e
        · rw [e] at hk; exact HR.out.gz k hk
        · rw [e] at hk; injection hk with hk; have := HHL.out; omega
      · obtain ⟨a1, a2⟩ := HR.out.seen i hi1 hi2
        refine ⟨by show i < (s.out ++ [((N : Int), (kw : Int))]).length; rw [List.length_append]; omega, ?_⟩
        show L = ((s.out ++ [((N : Int), (kw : Int))]).getD i (0, 0)).1
        rw [List.getD_eq_getElem?_getD, List.getElem?_append_left a1, ← List.getD_eq_getElem?_getD]; exact a2
end Go.Proofs.YtamnhnleipnhdaaDoor
