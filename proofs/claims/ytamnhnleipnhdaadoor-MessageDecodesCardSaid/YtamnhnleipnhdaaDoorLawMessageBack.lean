/-
  linesidelaw06.MessageBack, walked.
-/
import Derived.Test.YtamnhnleipnhdaaDoorMgN

namespace Go.Proofs.YtamnhnleipnhdaaDoor

open Go.RowKit

open BitsM

set_option maxRecDepth 100000 in
set_option maxHeartbeats 8000000 in
theorem messageBack_walk (id t a o : Int) (A : Option Addr) (n c : Nat) (B : Option Addr) (m d : Nat) (V : List Int) (l : List PkE) (w : World) (hV : SlI w.heap.size w A n c V) (hl : SlK w B m d l) (hwd : Wd w) :
    Calls Tryd.prog 5 #[msgV id t a o A n c B m d] w fun e w' => e = .returned (.bool true) ∧ Below w.heap.size w w' := by
  obtain ⟨wa, hwa, hba, hsz, hcl, hin⟩ := msg_open id t a o A n c B m d V l w hV hl hwd
  have hhw : wa.heap.size = w.heap.size + 1 := by rw [← hwa]; simp
  have HA0 := Lib.hid (awake_any wa (hin wa (Below.refl _ _)).2.2)
  have HBA := Lib.hid hba
  have HCL := Lib.hid hcl; have HIN := Lib.hid hin
  obtain ⟨T, hT⟩ : ∃ T, lightF n m l = T := ⟨_, rfl⟩
  have HLI := Lib.hid (fun W (hW : Below wa.heap.size wa W) => light_any id t a o A n c B m d l W (hin W hW).2.1)
  rw [hT] at HLI
  have HT := Lib.hid hT
  clear hV hl hwd hba hcl hin hT
  unfold msgV msgCells at *
  go_enter Tryd.func5, Tryd.ntmps5
  go_wp2_with fail
  clear hwa
  refine HA0.out.mono ?_
  rintro e w1 ⟨rfl, hb1⟩
  obtain ⟨q0, q1, q2, q3, q4, q5⟩ := HCL.out w1 hb1
  have HB1 := Lib.hid hb1
  have HL1 := Lib.hid (HLI.out w1 hb1)
  clear hb1 HA0 HLI
  go_wp2_with fail
  refine HL1.out.mono ?_
  rintro e w2 ⟨rfl, hb2⟩
  have hbw2 := HB1.out.trans (hb2.mono HB1.out.size)
  have HB2 := Lib.hid hbw2
  clear hb2 hbw2 q0 q1 q2 q3 q4 q5 HL1 HB1
  cases T with
  | false =>
    have HBe := Lib.hid (HBA.out.trans (HB2.out.mono HBA.out.size))
    go_wp2
    go_ret
    exact ⟨rfl, HBe.out⟩
  | true =>
    obtain ⟨hn, hm, hpn⟩ := light_in HT.out
    obtain ⟨q0, q1, q2, q3, q4, q5⟩ := HCL.out w2 HB2.out
    obtain ⟨hv2, hk2, hw2⟩ := HIN.out w2 HB2.out
    have HC1 := Lib.hid (omg_encode id t a o A n c B m d V l w2 hv2 hk2 (by omega) (by omega) (fun p hp => by have := hpn p hp; omega) hw2)
    unfold Bytes0 msgV msgCells at HC1
    obtain ⟨E, hE⟩ : ∃ E, encF (msgOf id t a o V l) = E := ⟨_, rfl⟩
    obtain ⟨hs1, hs2, hs3, hs4⟩ := enc_small (m := msgOf id t a o V l)
    rw [hE] at HC1 hs1 hs2 hs3 hs4
    have HE := Lib.hid hE
    have HS1 := Lib.hid hs1; have HS3 := Lib.hid hs3; have HPN := Lib.hid hpn
    clear hE hs1 hs3 hpn hv2 hk2 hw2 HT
    go_wp2_with fail
    refine HC1.out.mono ?_
    rintro e w3 ⟨A3, c3, rfl, ha3, hc3, hb3⟩
    have hbw3 := HB2.out.trans (hb3.mono HB2.out.size)
    have HB3 := Lib.hid hbw3
    have HA3 := Lib.hid ha3
    obtain ⟨es, ec⟩ := E
    simp only at *
    clear ha3 hb3 hbw3 HC1 HB2 q0 q1 q2 q3 q4 q5
    by_cases hz : ec = 0
    · subst hz
      have hEE := HS3.out rfl
      have hdec := enc_back (HE.out)
      obtain ⟨_, _, hw3⟩ := HIN.out w3 HB3.out
      have HC2 := Lib.hid (omg_decode A3 c3 es w3 HA3.out HS1.out (by omega) hc3 hw3)
      rw [hdec] at HC2
      unfold DcPost msgV msgCells at HC2
      obtain ⟨N, hN⟩ : ∃ N, es.length = N := ⟨_, rfl⟩
      have HSN := Lib.hid hN
      rw [hN] at hs2 ⊢
      have x1 : ¬ (1023 : Int) < (N : Int) := by omega
      rw [hN] at HC2
      clear hEE hdec hw3 hN hs4 hc3 HS1 HS3
      go_wp2_with fail
      refine HC2.out.mono ?_
      rintro e w4 ⟨id', t', a', o', A4, n4, c4, B4, m4, d4, V4, l4, rfl, heq, hsv, hsk, hm4, hpn4, hb4⟩
      have hbw4 := HB3.out.trans (hb4.mono HB3.out.size)
      obtain ⟨w5, hw5⟩ : ∃ w5, w4.alloc (.cells #[.int .i64 id', .int .i64 t', .int .i64 a', .int .i64 o', .slice A4 n4 c4, .slice B4 m4 d4] 25) = w5 := ⟨_, rfl⟩
      have hb45 : Below w4.heap.size w4 w5 := by rw [← hw5]; exact (Below.refl _ _).alloc (Nat.le_refl _) _
      have hm5 : Has w5 w4.heap.size 25 #[.int .i64 id', .int .i64 t', .int .i64 a', .int .i64 o', .slice A4 n4 c4, .slice B4 m4 d4] := by rw [← hw5]; exact Has.made _ _ _
      have hbw5 := hbw4.trans (hb45.mono hbw4.size)
      obtain ⟨q0, q1, q2, q3, q4, q5⟩ := HCL.out w5 hbw5
      obtain ⟨hv5, hk5, hw5'⟩ := HIN.out w5 hbw5
      have r0 : w5.cell? ⟨w4.heap.size, 0, none⟩ = some (.int .i64 id') := hm5.cell 0
      have r1 : w5.cell? ⟨w4.heap.size, 1, none⟩ = some (.int .i64 t') := hm5.cell 1
      have r2 : w5.cell? ⟨w4.heap.size, 2, none⟩ = some (.int .i64 a') := hm5.cell 2
      have r3 : w5.cell? ⟨w4.heap.size, 3, none⟩ = some (.int .i64 o') := hm5.cell 3
      have r4 : w5.cell? ⟨w4.heap.size, 4, none⟩ = some (.slice A4 n4 c4) := hm5.cell 4
      have r5 : w5.cell? ⟨w4.heap.size, 5, none⟩ = some (.slice B4 m4 d4) := hm5.cell 5
      have hveq : V4.length = V.length := by injection heq with _ _ _ _ e5 _; rw [e5]
      have hn4 : n4 ≤ 1048576 := by rw [← hsv.len, hveq, hv5.len]; omega
      have hps : ∀ p ∈ l, p.n ≤ 1048576 := fun p hp => by have := HPN.out p hp; omega
      have HSM := Lib.hid (msame_any id t a o A n c B m d V l id' t' a' o' A4 n4 c4 B4 m4 d4 V4 l4 w5 (sln_of hv5) hk5 (sln_of (sliUnder hsv hb45)) (hsk.under hb45) (by omega) hn4 (by omega) hps (fun p hp => by have := hpn4 p hp; omega))
      unfold msgV msgCells at HSM
      have HEQ := Lib.hid heq
      have HB5 := Lib.hid hbw5
      have HH5 := Lib.hid hw5
      clear heq hsv hsk hm4 hpn4 hb4 hbw4 hb45 hm5 hbw5 hv5 hk5 hw5' hveq hn4 hps HC2
      have hw5 := HH5.out; clear HH5
      go_wp2_with fail
      refine HSM.out.mono ?_
      rintro e w6 ⟨⟨T6, rfl, hT6⟩, hb6⟩
      have hTT : T6 = true := hT6.2 HEQ.out.symm
      subst hTT
      have HB6 := Lib.hid (HBA.out.trans ((HB5.out.trans (hb6.mono HB5.out.size)).mono HBA.out.size))
      clear hT6 hb6 HSM HEQ HB5 hw5 q0 q1 q2 q3 q4 q5 r0 r1 r2 r3 r4 r5
      go_wp2
      go_ret
      exact ⟨rfl, HB6.out⟩
    · have hes := hs4 hz
      subst hes
      have e2 : (ec != 0) = true := by simp [hz]
      have HB3e := Lib.hid (HBA.out.trans (HB3.out.mono HBA.out.size))
      clear HE HS1 HS3 hs4 hs2 hc3
      go_wp2
      go_ret
      exact ⟨rfl, HB3e.out⟩
end Go.Proofs.YtamnhnleipnhdaaDoor
