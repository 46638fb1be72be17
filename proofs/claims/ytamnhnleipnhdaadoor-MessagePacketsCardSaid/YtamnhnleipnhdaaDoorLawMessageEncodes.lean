/-
  linesidelaw06.MessageEncodes, walked.
-/
import Derived.Test.YtamnhnleipnhdaaDoorLawMessageCut

namespace Go.Proofs.YtamnhnleipnhdaaDoor

open Go.RowKit

open BitsM

theorem ref_encode (id t a o : Int) (A : Option Addr) (n c : Nat) (B : Option Addr) (m d : Nat) (V : List Int) (l : List PkE) (w : World)
    (hV : SlI w.heap.size w A n c V) (hl : SlK w B m d l) (hn : n ≤ 30) (hm : m ≤ 30) (hpk : ∀ p ∈ l, p.n ≤ 3000) :
    Calls Tryd.prog 13 #[msgV id t a o A n c B m d] w fun e w' => Bytes0 w.heap.size w w' e (encF (msgOf id t a o V l)) := by
  by_cases hk : mknown id = true
  · exact mencode_in id t a o A n c B m d V l w hk hV hl hn hm hpk
  · have hk : mknown id = false := by simpa using hk
    have e : encF (msgOf id t a o V l) = ([], 4) := by unfold encF; rw [if_pos (show mknown (msgOf id t a o V l).id = false from hk)]
    rw [e]
    exact mencode_out id t a o A n c B m d w hk

set_option maxRecDepth 100000 in
set_option maxHeartbeats 8000000 in
theorem messageEncodes_walk (id t a o : Int) (A : Option Addr) (n c : Nat) (B : Option Addr) (m d : Nat) (V : List Int) (l : List PkE) (w : World) (hV : SlI w.heap.size w A n c V) (hl : SlK w B m d l) (hwd : Wd w) :
    Calls Tryd.prog 3 #[msgV id t a o A n c B m d] w fun e w' => e = .returned (.bool true) ∧ Below w.heap.size w w' := by
  obtain ⟨wa, hwa, hba, hsz, hcl, hin⟩ := msg_open id t a o A n c B m d V l w hV hl hwd
  have hhw : wa.heap.size = w.heap.size + 1 := by rw [← hwa]; simp
  have HA0 := Lib.hid (awake_any wa (hin wa (Below.refl _ _)).2.2)
  have HBA := Lib.hid hba
  have HCL := Lib.hid hcl; have HIN := Lib.hid hin
  obtain ⟨T, hT⟩ : ∃ T, lightF n m l = T := ⟨_, rfl⟩
  have HLI := Lib.hid (fun W (hW : Below wa.heap.size wa W) => light_any id t a o A n c B m d l W (hin W hW).2.1)
  rw [hT] at HLI
  have HT := Lib.hid hT
  clear hV hl hwd hba hcl hin hT
  unfold msgV msgCells at *
  go_enter Tryd.func3, Tryd.ntmps3
  go_wp2_with fail
  clear hwa
  refine HA0.out.mono ?_
  rintro e w1 ⟨rfl, hb1⟩
  obtain ⟨q0, q1, q2, q3, q4, q5⟩ := HCL.out w1 hb1
  have HB1 := Lib.hid hb1
  have HL1 := Lib.hid (HLI.out w1 hb1)
  clear hb1 HA0 HLI
  go_wp2_with fail
  refine HL1.out.mono ?_
  rintro e w2 ⟨rfl, hb2⟩
  have hbw2 := HB1.out.trans (hb2.mono HB1.out.size)
  have HB2 := Lib.hid hbw2
  clear hb2 hbw2 q0 q1 q2 q3 q4 q5 HL1 HB1
  cases T with
  | false =>
    have HBe := Lib.hid (HBA.out.trans (HB2.out.mono HBA.out.size))
    go_wp2
    go_ret
    exact ⟨rfl, HBe.out⟩
  | true =>
    obtain ⟨hn, hm, hpn⟩ := light_in HT.out
    obtain ⟨q0, q1, q2, q3, q4, q5⟩ := HCL.out w2 HB2.out
    obtain ⟨hv2, hk2, hw2⟩ := HIN.out w2 HB2.out
    have HC1 := Lib.hid (omg_encode id t a o A n c B m d V l w2 hv2 hk2 (by omega) (by omega) (fun p hp => by have := hpn p hp; omega) hw2)
    have HR1 := Lib.hid (fun W (hW : Below wa.heap.size wa W) => ref_encode id t a o A n c B m d V l W (HIN.out W hW).1 (HIN.out W hW).2.1 (by omega) (by omega) hpn)
    unfold Bytes0 msgV msgCells at HC1 HR1
    obtain ⟨E, hE⟩ : ∃ E, encF (msgOf id t a o V l) = E := ⟨_, rfl⟩
    rw [hE] at HC1 HR1
    have D1 := Lib.hid (fun W => omg_known id W)
    have D2 := Lib.hid (fun W => mknown_any id W)
    have D3 := Lib.hid (fun W => omg_up id W)
    have D4 := Lib.hid (fun W => mup_any id W)
    generalize mknown id = kn at *
    generalize mup id = uu at *
    clear hE hpn hv2 hk2 hw2 HT
    go_wp2_with fail
    refine HC1.out.mono ?_
    rintro e w3 ⟨A3, c3, rfl, ha3, hc3, hb3⟩
    have hbw3 := HB2.out.trans (hb3.mono HB2.out.size)
    have HB3 := Lib.hid hbw3
    have HA3 := Lib.hid ha3
    have HR3 := Lib.hid (HR1.out w3 hbw3)
    clear q0 q1 q2 q3 q4 q5
    obtain ⟨q0, q1, q2, q3, q4, q5⟩ := HCL.out w3 hbw3
    obtain ⟨es, ec⟩ := E
    simp only at *
    clear ha3 hb3 hbw3 HC1 HR1 HB2
    go_wp2_with fail
    refine HR3.out.mono ?_
    rintro e w4 ⟨A4, c4, rfl, ha4, hc4, hb4⟩
    have hbw4 := HB3.out.trans (hb4.mono HB3.out.size)
    have hbd : Below w4.heap.size w4 w4.drew := below_draws (Below.refl _ _) 1
    have hbW : ∀ W, Below w4.heap.size w4 W → Below wa.heap.size wa W := fun W hW => hbw4.trans (hW.mono hbw4.size)
    obtain ⟨N, hN⟩ : ∃ N, es.length = N := ⟨_, rfl⟩
    have KC := Lib.hid (fun W (hW : Below w4.heap.size w4 W) => And.intro (HCL.out W (hbW W hW)).1 (And.intro (conv8 A3 c3 es W (at8_low (at8_low HA3.out hb4) hW)) (conv8 A4 c4 es W (at8_low ha4 hW))))
    rw [hN] at KC ⊢
    have k0 := KC.out _ hbd
    have E1 := Lib.hid (fun W (hW : Below w4.heap.size w4 W) => (D1.out W).mono fun e w' h => And.intro h.1 (hW.trans (h.2.mono hW.size)))
    have E2 := Lib.hid (fun W (hW : Below w4.heap.size w4 W) => (D2.out W).mono fun e w' h => And.intro h.1 (hW.trans (h.2.mono hW.size)))
    have E3 := Lib.hid (fun W (hW : Below w4.heap.size w4 W) => (D3.out W).mono fun e w' h => And.intro h.1 (hW.trans (h.2.mono hW.size)))
    have E4 := Lib.hid (fun W (hW : Below w4.heap.size w4 W) => (D4.out W).mono fun e w' h => And.intro h.1 (hW.trans (h.2.mono hW.size)))
    have HFI := Lib.hid (fun W (hW : Below w4.heap.size w4 W) => HBA.out.trans ((hbW W hW).mono HBA.out.size))
    have x0 : (ec == ec) = true := by simp
    have x1 : (kn == kn) = true := by simp
    have x2 : (uu == uu) = true := by simp
    generalize str8 es = S at *
    clear ha4 hb4 hbw4 HR3 HA3 HB3 q0 q1 q2 q3 q4 q5 hc3 hc4 hN HCL HIN D1 D2 D3 D4 hbW
    go_wp2_with fail
    go_region_held3 (fun w' => w'.cell? ⟨w.heap.size, 0, none⟩ = some (.int .i64 id) ∧ (convert 28 9 (.slice A3 N c3)).run Tryd.prog w' = .ok (.string S) w' ∧ (convert 28 9 (.slice A4 N c4)).run Tryd.prog w' = .ok (.string S) w') (first | exact KC.out _ (by assumption) | go_keep) (first
      | (go_at_call 14; refine (E1.out _ (by assumption)).mono ?_; rintro e w5 ⟨rfl, hb5⟩)
      | (go_at_call 15; refine (E2.out _ (by assumption)).mono ?_; rintro e w6 ⟨rfl, hb6⟩)
      | (go_at_call 16; refine (E3.out _ (by assumption)).mono ?_; rintro e w7 ⟨rfl, hb7⟩)
      | (go_at_call 17; refine (E4.out _ (by assumption)).mono ?_; rintro e w8 ⟨rfl, hb8⟩))
    have HB8 := Lib.hid (HFI.out _ hb8)
    clear hbd hb5 hb6 hb7 hb8 k0
    go_wp2
    go_ret
    exact ⟨by simp, HB8.out⟩
end Go.Proofs.YtamnhnleipnhdaaDoor
