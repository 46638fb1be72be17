/-
  linesidelaw06.MessageDecodes, walked.
-/
import Derived.Test.YtamnhnleipnhdaaDoorLawMessageOnly
import Derived.Test.YtamnhnleipnhdaaDoorMdRef
namespace Go.Proofs.YtamnhnleipnhdaaDoor
open Go.RowKit
open BitsM

set_option maxRecDepth 100000 in
set_option maxHeartbeats 8000000 in
theorem messageDecodes_walk (A : Option Addr) (n c : Nat) (zs : List Int) (w : World) (hcn : InInts .u8 w A n zs ∧ n ≤ c) (hwd : Wd w) :
    Calls Tryd.prog 4 #[.slice A n c] w fun e w' => e = .returned (.bool true) ∧ Below w.heap.size w w' := by
  obtain ⟨h, hcap⟩ := hcn
  obtain ⟨hl, _, ha, hb⟩ := h.bytes
  have HA0 := Lib.hid (awake_any w hwd)
  have HWD := Lib.hid hwd; clear hwd
  by_cases hin : n ≤ 1500
  · rw [← hl] at hin hcap ⊢
    generalize zs.map Int.toNat = xs at *
    have HA := Lib.hid ha; have HB := Lib.hid hb
    have x1 : ¬ (1500 : Int) < (xs.length : Int) := by omega
    clear h ha hb hl
    go_enter Tryd.func4, Tryd.ntmps4
    go_wp2_with fail
    refine HA0.out.mono ?_
    rintro e w1 ⟨rfl, hb1⟩
    have HB1 := Lib.hid hb1
    have HC1 := Lib.hid (omg_decode A c xs w1 (at8_low HA.out hb1) HB.out hin hcap (HWD.out.under hb1))
    unfold DcPost msgV msgCells at HC1
    obtain ⟨T, hT⟩ : ∃ T, decF xs = T := ⟨_, rfl⟩
    rw [hT] at HC1
    have HT := Lib.hid hT
    clear hb1 HA0 hT HWD
    go_wp2_with fail
    refine HC1.out.mono ?_
    rintro e w4 ⟨id', t', a', o', A4, n4, c4, B4, m4, d4, V4, l4, rfl, heq, hsv, hsk, hm4, hpn4, hb4⟩
    have hbw4 := HB1.out.trans (hb4.mono HB1.out.size)
    obtain ⟨w5, hw5⟩ : ∃ w5, w4.alloc (.cells #[.int .i64 id', .int .i64 t', .int .i64 a', .int .i64 o', .slice A4 n4 c4, .slice B4 m4 d4] 25) = w5 := ⟨_, rfl⟩
    obtain ⟨g5, hg5⟩ : ∃ g5, w4.heap.size = g5 := ⟨_, rfl⟩
    have hb45 : Below w4.heap.size w4 w5 := by rw [← hw5]; exact (Below.refl _ _).alloc (Nat.le_refl _) _
    have hm5 : Has w5 g5 25 #[.int .i64 id', .int .i64 t', .int .i64 a', .int .i64 o', .slice A4 n4 c4, .slice B4 m4 d4] := by rw [← hw5, ← hg5]; exact Has.made _ _ _
    have hbw5 := hbw4.trans (hb45.mono hbw4.size)
    have hsv5 := sliUnder hsv hb45
    have hsk5 := hsk.under hb45
    have HB5 := Lib.hid hbw5; have HM5 := Lib.hid hm5; have HSV5 := Lib.hid hsv5; have HSK5 := Lib.hid hsk5; have HEQ := Lib.hid heq; have HPN4 := Lib.hid hpn4
    have hrf := mdecode_any A c xs w5 (at8_low HA.out hbw5) HB.out hin
    rw [HT.out] at hrf
    unfold DcPost msgV msgCells at hrf
    have HRF := Lib.hid hrf
    clear hb4 hbw4 hb45 hm5 hbw5 HC1 hsv hsk HB1 hsv5 hsk5 heq hpn4 hrf
    go_wp2_with fail
    clear hw5 hg5
    refine HRF.out.mono ?_
    rintro e w6 ⟨id6, t6, a6, o6, A6, n6, c6, B6, m6, d6, V6, l6, rfl, heq6, hsv6, hsk6, hm6, hpn6, hb6⟩
    obtain ⟨w7, hw7⟩ : ∃ w7, w6.alloc (.cells #[.int .i64 id6, .int .i64 t6, .int .i64 a6, .int .i64 o6, .slice A6 n6 c6, .slice B6 m6 d6] 25) = w7 := ⟨_, rfl⟩
    obtain ⟨g7, hg7⟩ : ∃ g7, w6.heap.size = g7 := ⟨_, rfl⟩
    have hb67 : Below w6.heap.size w6 w7 := by rw [← hw7]; exact (Below.refl _ _).alloc (Nat.le_refl _) _
    have hm7 : Has w7 g7 25 #[.int .i64 id6, .int .i64 t6, .int .i64 a6, .int .i64 o6, .slice A6 n6 c6, .slice B6 m6 d6] := by rw [← hw7, ← hg7]; exact Has.made _ _ _
    have hb57 : Below w5.heap.size w5 w7 := hb6.trans (hb67.mono hb6.size)
    have HB7 := Lib.hid (HB5.out.trans (hb57.mono HB5.out.size))
    have hm57 := HM5.out.under hb57 HM5.out.lt
    have u0 : w7.cell? ⟨g5, 0, none⟩ = some (.int .i64 id') := hm57.cell 0
    have u1 : w7.cell? ⟨g5, 1, none⟩ = some (.int .i64 t') := hm57.cell 1
    have u2 : w7.cell? ⟨g5, 2, none⟩ = some (.int .i64 a') := hm57.cell 2
    have u3 : w7.cell? ⟨g5, 3, none⟩ = some (.int .i64 o') := hm57.cell 3
    have u4 : w7.cell? ⟨g5, 4, none⟩ = some (.slice A4 n4 c4) := hm57.cell 4
    have u5 : w7.cell? ⟨g5, 5, none⟩ = some (.slice B4 m4 d4) := hm57.cell 5
    have r0 : w7.cell? ⟨g7, 0, none⟩ = some (.int .i64 id6) := hm7.cell 0
    have r1 : w7.cell? ⟨g7, 1, none⟩ = some (.int .i64 t6) := hm7.cell 1
    have r2 : w7.cell? ⟨g7, 2, none⟩ = some (.int .i64 a6) := hm7.cell 2
    have r3 : w7.cell? ⟨g7, 3, none⟩ = some (.int .i64 o6) := hm7.cell 3
    have r4 : w7.cell? ⟨g7, 4, none⟩ = some (.slice A6 n6 c6) := hm7.cell 4
    have r5 : w7.cell? ⟨g7, 5, none⟩ = some (.slice B6 m6 d6) := hm7.cell 5
    have hvb : ∀ v : List Int, T.1.V = v → v.length ≤ 30 := fun v hv => by
      by_cases hz : T.2 = 0
      · have h := (dec_fits HB.out (m := T.1) (by rw [HT.out, ← hz])).2.2
        rw [hv] at h; exact h
      · have hd := dec_none (xs := xs) (by rw [HT.out]; exact hz)
        rw [HT.out] at hd
        rw [hd] at hv
        rw [← hv]; simp [mzero]
    have hv7 := sliUnder hsv6 hb67
    have hk7 := hsk6.under hb67
    have hv5 := sliUnder HSV5.out hb57
    have hk5 := HSK5.out.under hb57
    have hn4 : n4 ≤ 1048576 := by
      have h := hvb V4 (by rw [← HEQ.out]; rfl)
      rw [hv5.len] at h; omega
    have hn6 : n6 ≤ 1048576 := by
      have h := hvb V6 (by rw [← heq6]; rfl)
      rw [hv7.len] at h; omega
    have HSM := Lib.hid (msame_any id' t' a' o' A4 n4 c4 B4 m4 d4 V4 l4 id6 t6 a6 o6 A6 n6 c6 B6 m6 d6 V6 l6 w7 (sln_of hv5) hk5 (sln_of hv7) hk7 hn4 hn6 (by omega) (fun p hp => by have := HPN4.out p hp; omega) (fun p hp => by have := hpn6 p hp; omega))
    unfold msgV msgCells at HSM
    have HEE : Hid (msgOf id' t' a' o' V4 l4 = msgOf id6 t6 a6 o6 V6 l6) := Lib.hid (HEQ.out.trans heq6.symm)
    obtain ⟨tm, te⟩ := T
    simp only at *
    clear hvb hv7 hk7 hv5 hk5 hn4 hn6 heq6 hsv6 hsk6 hm6 hpn6 hb6 hb67 hm7 hb57 hm57 HB5 HM5 HSV5 HSK5 HEQ HPN4 HRF HT HA HB
    go_wp2_with fail
    clear hw7 hg7
    refine HSM.out.mono ?_
    rintro e w8 ⟨⟨T6, rfl, hT6⟩, hb8⟩
    have hTT : T6 = true := hT6.2 HEE.out
    subst hTT
    have HB8 := Lib.hid (HB7.out.trans (hb8.mono HB7.out.size))
    have x0 : (te == te) = true := by simp
    clear hT6 hb8 HSM HEE HB7 u0 u1 u2 u3 u4 u5 r0 r1 r2 r3 r4 r5
    go_wp2
    go_ret
    exact ⟨rfl, HB8.out⟩
  · have x1 : (1500 : Int) < (n : Int) := by omega
    clear h ha hb hl
    go_enter Tryd.func4, Tryd.ntmps4
    go_wp2_with fail
    refine HA0.out.mono ?_
    rintro e w1 ⟨rfl, hb1⟩
    have HB1 := Lib.hid hb1
    clear hb1 HA0
    go_wp2
    go_ret
    exact ⟨rfl, HB1.out⟩
end Go.Proofs.YtamnhnleipnhdaaDoor
