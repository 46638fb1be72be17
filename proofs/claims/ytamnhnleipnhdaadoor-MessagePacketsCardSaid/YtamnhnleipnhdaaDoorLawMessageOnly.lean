/-
  linesidelaw06.MessageOnly, walked.
-/
import Derived.Test.YtamnhnleipnhdaaDoorLawMessageBack

namespace Go.Proofs.YtamnhnleipnhdaaDoor

open Go.RowKit

open BitsM

theorem dec_z {id t a o : Int} {V : List Int} {l : List PkE} {n m : Nat} (hn : V.length = n) (hm : l.length = m) (h : msgOf id t a o V l = mzero) : id = 0 ∧ n = 0 ∧ m = 0 := by
  injection h with h1 h2 h3 h4 h5 h6
  subst h5
  refine ⟨h1, by rw [← hn]; rfl, ?_⟩
  have := congrArg List.length h6
  rw [plain_len] at this
  rw [← hm, this]; rfl

set_option maxRecDepth 100000 in
set_option maxHeartbeats 8000000 in
theorem messageOnly_walk (A : Option Addr) (n c : Nat) (zs : List Int) (w : World) (hcn : InInts .u8 w A n zs ∧ n ≤ c) (hwd : Wd w) :
    Calls Tryd.prog 6 #[.slice A n c] w fun e w' => e = .returned (.bool true) ∧ Below w.heap.size w w' := by
  obtain ⟨h, hcap⟩ := hcn
  obtain ⟨hl, _, ha, hb⟩ := h.bytes
  have HA0 := Lib.hid (awake_any w hwd)
  have HWD := Lib.hid hwd; clear hwd
  by_cases hin : n ≤ 1500
  · rw [← hl] at hin hcap ⊢
    generalize zs.map Int.toNat = xs at *
    have HA := Lib.hid ha; have HB := Lib.hid hb
    have x1 : ¬ (1500 : Int) < (xs.length : Int) := by omega
    clear h ha hb hl
    go_enter Tryd.func6, Tryd.ntmps6
    go_wp2_with fail
    refine HA0.out.mono ?_
    rintro e w1 ⟨rfl, hb1⟩
    have HB1 := Lib.hid hb1
    have HC1 := Lib.hid (omg_decode A c xs w1 (at8_low HA.out hb1) HB.out hin hcap (HWD.out.under hb1))
    unfold DcPost msgV msgCells at HC1
    obtain ⟨T, hT⟩ : ∃ T, decF xs = T := ⟨_, rfl⟩
    rw [hT] at HC1
    have HT := Lib.hid hT
    clear hb1 HA0 hT
    go_wp2_with fail
    refine HC1.out.mono ?_
    rintro e w4 ⟨id', t', a', o', A4, n4, c4, B4, m4, d4, V4, l4, rfl, heq, hsv, hsk, hm4, hpn4, hb4⟩
    have hbw4 := HB1.out.trans (hb4.mono HB1.out.size)
    obtain ⟨w5, hw5⟩ : ∃ w5, w4.alloc (.cells #[.int .i64 id', .int .i64 t', .int .i64 a', .int .i64 o', .slice A4 n4 c4, .slice B4 m4 d4] 25) = w5 := ⟨_, rfl⟩
    have hb45 : Below w4.heap.size w4 w5 := by rw [← hw5]; exact (Below.refl _ _).alloc (Nat.le_refl _) _
    have hm5 : Has w5 w4.heap.size 25 #[.int .i64 id', .int .i64 t', .int .i64 a', .int .i64 o', .slice A4 n4 c4, .slice B4 m4 d4] := by rw [← hw5]; exact Has.made _ _ _
    have hbw5 := hbw4.trans (hb45.mono hbw4.size)
    have r0 : w5.cell? ⟨w4.heap.size, 0, none⟩ = some (.int .i64 id') := hm5.cell 0
    have r1 : w5.cell? ⟨w4.heap.size, 1, none⟩ = some (.int .i64 t') := hm5.cell 1
    have r2 : w5.cell? ⟨w4.heap.size, 2, none⟩ = some (.int .i64 a') := hm5.cell 2
    have r3 : w5.cell? ⟨w4.heap.size, 3, none⟩ = some (.int .i64 o') := hm5.cell 3
    have r4 : w5.cell? ⟨w4.heap.size, 4, none⟩ = some (.slice A4 n4 c4) := hm5.cell 4
    have r5 : w5.cell? ⟨w4.heap.size, 5, none⟩ = some (.slice B4 m4 d4) := hm5.cell 5
    have hsv5 := sliUnder hsv hb45
    have hsk5 := hsk.under hb45
    have HB5 := Lib.hid hbw5
    have HW5 := Lib.hid (HWD.out.under hbw5)
    obtain ⟨tm, te⟩ := T
    simp only at heq
    clear hb4 hbw4 hb45 hm5 hbw5 HC1 hsv hsk HB1 HWD
    by_cases hz : te = 0
    · subst hz
      obtain ⟨d1, d2, d3⟩ := dec_fits HB.out HT.out
      rw [← heq] at d1 d2 d3
      have hv3 : V4.length ≤ 30 := d3
      have hv2 : l4.length ≤ 8 := by have := d2; rwa [show (msgOf id' t' a' o' V4 l4).P = pkPlain l4 from rfl, plain_len] at this
      rw [hsv5.len] at hv3
      rw [hsk5.len] at hv2
      have HC2 := Lib.hid (omg_encode id' t' a' o' A4 n4 c4 B4 m4 d4 V4 l4 w5 hsv5 hsk5 (by omega) (by omega) (fun p hp => by have := hpn4 p hp; omega) HW5.out)
      rw [d1] at HC2
      unfold Bytes0 msgV msgCells at HC2
      have HA5 := Lib.hid (at8_low HA.out HB5.out)
      clear heq hsv5 hsk5 hpn4 d1 d2 d3 hv3 hv2 HT HB HW5 hm4
      go_wp2_with fail
      clear hw5
      refine HC2.out.mono ?_
      rintro e w6 ⟨A6, c6, rfl, ha6, hc6, hb6⟩
      have HB6 := Lib.hid (HB5.out.trans (hb6.mono HB5.out.size))
      have hcv1 := conv8 A6 c6 xs w6 ha6
      have hcv2 := conv8 A c xs w6 (at8_low HA5.out hb6)
      have x0 : ((0 : Int) == 0) = true := rfl
      clear ha6 hc6 hb6 HC2 HA5 HB5 r0 r1 r2 r3 r4 r5 HA
      go_wp2
      go_ret
      exact ⟨rfl, HB6.out⟩
    · have hd := dec_none (xs := xs) (by rw [HT.out]; exact hz)
      rw [HT.out] at hd
      simp only at hd
      rw [hd] at heq
      obtain ⟨e1, e2, e3⟩ := dec_z hsv5.len hsk5.len heq
      subst e1; subst e2; subst e3
      have x2 : (te != 0) = true := by simp [hz]
      clear heq hsv5 hsk5 hpn4 HT HB HW5 hm4 hd HA
      go_wp2
      go_ret
      exact ⟨rfl, HB5.out⟩
  · have x1 : (1500 : Int) < (n : Int) := by omega
    clear h ha hb hl
    go_enter Tryd.func6, Tryd.ntmps6
    go_wp2_with fail
    refine HA0.out.mono ?_
    rintro e w1 ⟨rfl, hb1⟩
    have HB1 := Lib.hid hb1
    clear hb1 HA0
    go_wp2
    go_ret
    exact ⟨rfl, HB1.out⟩
end Go.Proofs.YtamnhnleipnhdaaDoor
