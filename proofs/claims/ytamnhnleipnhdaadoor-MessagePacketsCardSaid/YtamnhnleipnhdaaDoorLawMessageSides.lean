/-
  linesidelaw06.MessageSides, walked.
-/
import Derived.Test.YtamnhnleipnhdaaDoorLawMessageEncodes

namespace Go.Proofs.YtamnhnleipnhdaaDoor

open Go.RowKit

open BitsM

set_option maxRecDepth 100000 in
set_option maxHeartbeats 8000000 in
theorem messageSides_walk (id t a o : Int) (A : Option Addr) (n c : Nat) (B : Option Addr) (m d : Nat) (V : List Int) (l : List PkE) (w : World) (hV : SlI w.heap.size w A n c V) (hl : SlK w B m d l) (hwd : Wd w) :
    Calls Tryd.prog 9 #[msgV id t a o A n c B m d] w fun e w' => e = .returned (.bool true) ∧ Below w.heap.size w w' := by
  obtain ⟨wa, hwa, hba, hsz, hcl, hin⟩ := msg_open id t a o A n c B m d V l w hV hl hwd
  have hhw : wa.heap.size = w.heap.size + 1 := by rw [← hwa]; simp
  have HA0 := Lib.hid (awake_any wa (hin wa (Below.refl _ _)).2.2)
  have HBA := Lib.hid hba
  have HCL := Lib.hid hcl; have HIN := Lib.hid hin
  obtain ⟨T, hT⟩ : ∃ T, lightF n m l = T := ⟨_, rfl⟩
  have HLI := Lib.hid (fun W (hW : Below wa.heap.size wa W) => light_any id t a o A n c B m d l W (hin W hW).2.1)
  rw [hT] at HLI
  have HT := Lib.hid hT
  clear hV hl hwd hba hcl hin hT
  unfold msgV msgCells at *
  go_enter Tryd.func9, Tryd.ntmps9
  go_wp2_with fail
  clear hwa
  refine HA0.out.mono ?_
  rintro e w1 ⟨rfl, hb1⟩
  obtain ⟨q0, q1, q2, q3, q4, q5⟩ := HCL.out w1 hb1
  have HB1 := Lib.hid hb1
  have HL1 := Lib.hid (HLI.out w1 hb1)
  clear hb1 HA0 HLI
  go_wp2_with fail
  refine HL1.out.mono ?_
  rintro e w2 ⟨rfl, hb2⟩
  have hbw2 := HB1.out.trans (hb2.mono HB1.out.size)
  have HB2 := Lib.hid hbw2
  clear hb2 hbw2 q0 q1 q2 q3 q4 q5 HL1 HB1
  cases T with
  | false =>
    have HBe := Lib.hid (HBA.out.trans (HB2.out.mono HBA.out.size))
    go_wp2
    go_ret
    exact ⟨rfl, HBe.out⟩
  | true =>
    obtain ⟨hn, hm, hpn⟩ := light_in HT.out
    obtain ⟨q0, q1, q2, q3, q4, q5⟩ := HCL.out w2 HB2.out
    obtain ⟨hv2, hk2, hw2⟩ := HIN.out w2 HB2.out
    have HC1 := Lib.hid (omg_encode id t a o A n c B m d V l w2 hv2 hk2 (by omega) (by omega) (fun p hp => by have := hpn p hp; omega) hw2)
    unfold Bytes0 msgV msgCells at HC1
    obtain ⟨E, hE⟩ : ∃ E, encF (msgOf id t a o V l) = E := ⟨_, rfl⟩
    obtain ⟨hs1, hs2, hs3, hs4⟩ := enc_small (m := msgOf id t a o V l)
    rw [hE] at HC1 hs1 hs2 hs3 hs4
    have HE := Lib.hid hE
    have HS1 := Lib.hid hs1; have HS3 := Lib.hid hs3; have HPN := Lib.hid hpn
    clear hE hs1 hs3 hpn hv2 hk2 hw2 HT
    go_wp2_with fail
    refine HC1.out.mono ?_
    rintro e w3 ⟨A3, c3, rfl, ha3, hc3, hb3⟩
    have hbw3 := HB2.out.trans (hb3.mono HB2.out.size)
    have HB3 := Lib.hid hbw3
    have HA3 := Lib.hid ha3
    obtain ⟨es, ec⟩ := E
    simp only at *
    clear ha3 hb3 hbw3 HC1 HB2 q0 q1 q2 q3 q4 q5
    by_cases hz : ec = 0
    · subst hz
      obtain ⟨k1, k2, k3, k4, k5, k6, k7, k8⟩ := enc_fine (m := msgOf id t a o V l) (by rw [HE.out])
      have hkn : mknown id = true := k1
      have hua : mup id = true → a = 0 := k3
      have hups : ∀ (j : Nat) (h : j < l.length), upB (l[j].id) = mup id := fun j h => by
        refine fits_up hkn (ids := (pkPlain l).map Prod.fst) k6 _ ?_
        simp only [pkPlain, List.map_map]
        exact List.mem_map.2 ⟨l[j], List.getElem_mem h, rfl⟩
      have HU := Lib.hid hups
      have K1 := Lib.hid (fun W => omg_known id W)
      have K2 := Lib.hid (fun W => omg_up id W)
      rw [hkn] at K1
      generalize mup id = uu at *
      clear k1 k2 k3 k4 k5 k6 k7 k8 hkn hups HE HS1 HS3 hs2 hs4 HA3 HPN hc3
      go_wp2
      go_loopw [7] (fun i wl => ∃ j : Nat, j ≤ m ∧ i = .int .i64 (j : Nat) ∧ Below wa.heap.size wa wl) (fun i _ => m - (intOf i).toNat)
      case atStart => exact ⟨0, by omega, rfl, HB3.out⟩
      case round =>
        obtain ⟨j, hj, rfl, hbl⟩ := hrel
        obtain ⟨q0, q1, q2, q3, q4, q5⟩ := HCL.out wr hbl
        obtain ⟨_, hkl, _⟩ := HIN.out wr hbl
        have hln := hkl.len
        by_cases hlt : j < m
        · have hjl : j < l.length := by omega
          obtain ⟨b0, o0, rfl, hci, hc⟩ := hkl.at_ (j := j) hjl
          have hlb : b0 < wr.heap.size := cell_block hci
          have hgb : w.heap.size < wr.heap.size := Nat.lt_of_lt_of_le hsz hbl.size
          have KC := Lib.hid (fun W (hW : Below wr.heap.size wr W) => And.intro ((hW.cell (p := ⟨w.heap.size, 5, none⟩) hgb).trans q5) (And.intro ((hW.cell (p := ⟨w.heap.size, 0, none⟩) hgb).trans q0) ((hW.cell (p := ⟨b0, o0 + j * 2, none⟩) hlb).trans hci)))
          have C1 := Lib.hid (fun W (hW : Below wr.heap.size wr W) => (opk_up l[j].id W).mono fun e w' h => And.intro h.1 (hW.trans (h.2.mono hW.size)))
          have C2 := Lib.hid (fun W (hW : Below wr.heap.size wr W) => (K2.out W).mono fun e w' h => And.intro h.1 (hW.trans (h.2.mono hW.size)))
          rw [HU.out j hjl] at C1
          generalize l[j].id = xid at *
          have hbd : Below wr.heap.size wr wr.drew := below_draws (Below.refl _ _) 1
          have k0 := KC.out _ hbd
          have HBL := Lib.hid hbl
          have x3 : (0 : Int) ≤ j := by omega
          have x4 : (j : Int) < m := by omega
          have x5 : (uu != uu) = false := by simp
          clear hc hkl hln hlb hgb hbl
          go_wp2_with fail
          go_region_held3 (fun w' => w'.cell? ⟨w.heap.size, 5, none⟩ = some (.slice (some ⟨b0, o0, none⟩) m d) ∧ w'.cell? ⟨w.heap.size, 0, none⟩ = some (.int .i64 id) ∧ w'.cell? ⟨b0, o0 + j * 2, none⟩ = some (.int .i64 xid)) (first | exact KC.out _ (by assumption) | go_keep) (first
            | (go_at_call 21; refine (C1.out _ (by assumption)).mono ?_; rintro e w5 ⟨rfl, hb5⟩)
            | (go_at_call 16; refine (C2.out _ (by assumption)).mono ?_; rintro e w6 ⟨rfl, hb6⟩))
          have hbf := HBL.out.trans (hb6.mono HBL.out.size)
          have HBF := Lib.hid hbf
          clear hb5 hb6 hbf q0 q1 q2 q3 q4 q5 k0 hbd hci
          go_wp2
          go_roundw
          case rel => exact ⟨j + 1, by omega, by go_num, HBF.out⟩
          case measure => simp [intOf]; omega
        · obtain rfl : j = m := by omega
          have HBL := Lib.hid hbl
          clear hkl hln
          go_wp2_with fail
          refine (K1.out _).mono ?_
          rintro e w5 ⟨rfl, hb5⟩
          have hb5 := HBL.out.trans (hb5.mono HBL.out.size)
          clear q0 q1 q2 q3 q4 q5
          obtain ⟨q0, q1, q2, q3, q4, q5⟩ := HCL.out w5 hb5
          have HB5 := Lib.hid hb5
          clear hb5
          go_wp2_with fail
          refine (K2.out _).mono ?_
          rintro e w6 ⟨rfl, hb6⟩
          have hb6 := HB5.out.trans (hb6.mono HB5.out.size)
          clear q0 q1 q2 q3 q4 q5
          obtain ⟨q0, q1, q2, q3, q4, q5⟩ := HCL.out w6 hb6
          have HBe := Lib.hid (HBA.out.trans (hb6.mono HBA.out.size))
          clear hb6 HB5 HBL K1 K2
          cases uu
          · go_wp2
            go_ret
            exact ⟨rfl, HBe.out⟩
          · have ha0 : a = 0 := hua rfl
            subst ha0
            go_wp2
            go_ret
            exact ⟨rfl, HBe.out⟩
    · have hes := hs4 hz
      subst hes
      have e2 : (ec != 0) = true := by simp [hz]
      have HB3e := Lib.hid (HBA.out.trans (HB3.out.mono HBA.out.size))
      clear HE HS1 HS3 hs4 hs2 hc3
      go_wp2
      go_ret
      exact ⟨rfl, HB3e.out⟩
end Go.Proofs.YtamnhnleipnhdaaDoor
