/-
  linesidelaw09.PduTurned, walked.
-/
import Derived.Test.YtojbinpicoeppaaLawPduDecodes
namespace Go.Proofs.Ytojbinpicoeppaa
open Go.RowKit
open Go.Great

set_option maxRecDepth 100000 in
set_option maxHeartbeats 4000000 in
theorem pduTurned_walk (k : Key4) (p : Pdu) (A : Option Addr) (c : Nat) (at_ by_ : Int) (w : World) (hkk : k.ok) (hk : p.ok) (_hm : p.body.length ≤ maxLen) (_hc : p.body.length ≤ c) (hs : Sl w 1 A p.body.length c (u8s p.body)) (w2 : (Lit.int .i64 at_).wf = true) (w3 : (Lit.int .u8 by_).wf = true) :
    Calls Try.prog 8 #[keyV k, pdV p A c, .int .i64 at_, .int .u8 by_] w fun e w' => e = .returned (.bool true) ∧ Below w.heap.size w w' := by
  obtain ⟨wa, hwa, hba, hka, hpa⟩ := pd_boxK k p A c w
  have hsl := fun W (hW : Below w.heap.size w W) => Sl.under hs hW
  have HA := Lib.hid (awake9_any wa)
  have HWA := Lib.hid hwa; have HBA := Lib.hid hba; have HSL := Lib.hid hsl; have HK := Lib.hid hk; have HKK := Lib.hid hkk
  have HC := Lib.hid (fun W (hW : Below wa.heap.size wa W) => And.intro (key_cells (k := k) (hka.under hW hka.lt)) (has_seven (hpa.under hW hpa.lt)))
  obtain ⟨⟨c0, c1, c2, c3⟩, k0, k1, k2, k3, k4, k5, k6⟩ := HC.out wa (Below.refl _ _)
  have hy : 0 ≤ by_ ∧ by_ ≤ 255 := by simpa [Lit.wf, IntKind.min, IntKind.max, IntKind.signed, IntKind.bits] using w3
  have ha : -9223372036854775808 ≤ at_ ∧ at_ ≤ 9223372036854775807 := by simpa [Lit.wf, IntKind.min, IntKind.max, IntKind.signed, IntKind.bits] using w2
  obtain ⟨y, rfl⟩ : ∃ y : Nat, by_ = y := ⟨by_.toNat, by omega⟩
  unfold maxLen at _hm
  clear hwa hba hka hpa hsl hs hk hkk w2 w3
  unfold keyV keyA pdV pdA at *
  go_enter Try.func8, Try.ntmps8
  go_upto_region 1 with fail
  rw [HWA.out]
  clear HWA
  go_wp2_with fail
  refine HA.out.mono ?_
  rintro e w1 ⟨rfl, hb1⟩
  clear HA k0 k1 k2 k3 k4 k5 k6 c0 c1 c2 c3
  obtain ⟨⟨c0, c1, c2, c3⟩, k0, k1, k2, k3, k4, k5, k6⟩ := HC.out w1 hb1
  have HB1 := Lib.hid hb1
  clear hb1
  by_cases hin : p.body.length ≤ 2000
  · have x1 : ¬ (2000 : Int) < (p.body.length : Int) := by omega
    have HW1 := Lib.hid (HBA.out.trans (HB1.out.mono HBA.out.size))
    have HS1 := Lib.hid (opd_seal k HKK.out p A c HK.out hin w1 (HSL.out w1 HW1.out))
    have hqo := seal_ok HKK.out HK.out
    have hqs : ∀ W, Below w.heap.size w W → Sl W 1 A (pdSeal k p).body.length c (u8s (pdSeal k p).body) := fun W hW => by rw [seal_body]; exact HSL.out W hW
    have hqn : (pdSeal k p).body.length ≤ 2000 := by rw [seal_body]; exact hin
    have hqm : pdMay (pdSeal k p) → 1 < (pdSeal k p).kind → pdRight k (pdSeal k p) := fun h1 h2 => by
      by_cases hp : pdMay p ∧ 1 < p.kind
      · exact seal_right hp.1 hp.2
      · have e : pdSeal k p = p := by unfold pdSeal; rw [if_neg hp]
        rw [e] at h1 h2
        exact absurd ⟨h1, h2⟩ hp
    obtain ⟨s, hs⟩ : ∃ s, pdSeal k p = s := ⟨_, rfl⟩
    rw [hs] at HS1 hqo hqs hqn hqm
    have HSO := Lib.hid hqo; have HSS := Lib.hid hqs; have HQM := Lib.hid hqm
    unfold keyV keyA SealPost pdV pdA at HS1
    clear hqo hqs hs hqm HSL
    go_wp2_with fail
    refine HS1.out.mono ?_
    rintro e w2 ⟨A2, r2, rfl, hs2, _, _, hb2'⟩
    have hb2 := hb2'.out
    clear HS1 k0 k1 k2 k3 k4 k5 k6 c0 c1 c2 c3
    have HB2 := Lib.hid (HB1.out.trans (hb2.mono HB1.out.size))
    obtain ⟨w3, hw3⟩ : ∃ w3, w2.alloc (.cells #[.int .i64 s.kind, .int .i64 s.dir, .int .i64 s.train, .int .u32 (s.a : Nat), .int .u32 (s.b : Nat), .slice A2 s.body.length r2, .int .u64 (s.mac : Nat)] 26) = w3 := ⟨_, rfl⟩
    have hb23 : Below w2.heap.size w2 w3 := by rw [← hw3]; exact (Below.refl _ _).alloc (Nat.le_refl _) _
    have hh3 : Has w3 w2.heap.size 26 (pdA s A2 r2) := by rw [← hw3]; exact Has.made _ _ _
    have HB3 := Lib.hid (HB2.out.trans (hb23.mono HB2.out.size))
    have HW3' := Lib.hid (HBA.out.trans (HB3.out.mono HBA.out.size))
    have HE3 := Lib.hid (opd_encode s A2 r2 HSO.out hqn w3 (hs2.out.under hb23))
    have HSC := Lib.hid (fun W (hW : Below w3.heap.size w3 W) => has_seven (hh3.under hW hh3.lt))
    have HR := Lib.hid (fun W (hW : Below w3.heap.size w3 W) => opd_right k HKK.out s A2 r2 HSO.out hqn W ((hs2.out.under hb23).under hW))
    obtain ⟨q0, q1, q2, q3, q4, q5, q6⟩ := HSC.out w3 (Below.refl _ _)
    have HW3 := Lib.hid hw3
    clear hb2 hb2' hs2 hb23 hh3 hw3 HB1 HB2
    unfold EncPost at HE3
    by_cases hm : pdMay s
    · rw [if_pos hm] at HE3
      by_cases h1 : s.kind = 1
      · have hr : decide (pdRight k s) = false := by rw [decide_eq_false_iff_not]; intro h; have := h.2.1; omega
        rw [hr] at HR
        unfold pdV pdA at HE3 HR
        unfold keyV keyA at HR
        clear hm hr
        have x2 : (s.kind == 1) = true := by simp [h1]
        clear h1
        go_upto_region 5 with fail
        rw [HW3.out]
        clear HW3
        go_wp2_with fail
        refine HE3.out.mono ?_
        rintro e w4 ⟨A4, c4, rfl, ho4, hb4⟩
        clear q0 q1 q2 q3 q4 q5 q6
        obtain ⟨q0, q1, q2, q3, q4, q5, q6⟩ := HSC.out w4 hb4.out
        obtain ⟨⟨c0, c1, c2, c3⟩, k0, k1, k2, k3, k4, k5, k6⟩ := HC.out w4 (HB3.out.trans (hb4.out.mono HB3.out.size))
        have HB4 := Lib.hid hb4.out
        clear ho4 hb4 HE3
        go_wp2_with fail
        refine (HR.out _ HB4.out).mono ?_
        rintro e w5 ⟨rfl, hb5⟩
        have HBF := Lib.hid ((HW3'.out.trans (HB4.out.mono HW3'.out.size)).trans (hb5.mono (HW3'.out.trans (HB4.out.mono HW3'.out.size)).size))
        clear hb5
        go_wp2
        go_ret
        exact ⟨rfl, HBF.out⟩
      · have hkd : 1 < s.kind := by have := hm.2.2; unfold pdForm at this; omega
        have hrt := HQM.out hm hkd
        rw [decide_eq_true hrt] at HR
        have hel := enc_len hm
        have he8 := enc_8 HSO.out
        have HRT := Lib.hid hrt; have HE8 := Lib.hid he8
        have x2 : (s.kind == 1) = false := by simp [h1]
        unfold pdV pdA at HE3 HR
        unfold keyV keyA at HR
        clear hm hrt he8 h1
        obtain ⟨L, hL⟩ : ∃ L, (pdEnc s).length = L := ⟨_, rfl⟩
        have HL := Lib.hid hL
        rw [hL] at HE3 hel
        clear hL
        go_upto_region 5 with fail
        rw [HW3.out]
        clear HW3
        go_wp2_with fail
        refine HE3.out.mono ?_
        rintro e w4 ⟨A4, c4, rfl, ho4, hb4⟩
        clear q0 q1 q2 q3 q4 q5 q6
        obtain ⟨q0, q1, q2, q3, q4, q5, q6⟩ := HSC.out w4 hb4.out
        have HB34 := Lib.hid (HB3.out.trans (hb4.out.mono HB3.out.size))
        obtain ⟨⟨c0, c1, c2, c3⟩, k0, k1, k2, k3, k4, k5, k6⟩ := HC.out w4 HB34.out
        have HB4 := Lib.hid hb4.out; have HO4 := Lib.hid ho4.out
        clear ho4 hb4 HE3
        go_wp2_with fail
        refine (HR.out _ HB4.out).mono ?_
        rintro e w5 ⟨rfl, hb5⟩
        clear q0 q1 q2 q3 q4 q5 q6 c0 c1 c2 c3 k0 k1 k2 k3 k4 k5 k6 HR
        have HO5 := Lib.hid (own_under HO4.out hb5 (Nat.le_refl _))
        have HB5 := Lib.hid (HB34.out.trans (hb5.mono HB34.out.size))
        have hw35 : w3.heap.size ≤ w5.heap.size := Nat.le_trans HB4.out.size hb5.size
        have hwz : wa.heap.size ≤ w3.heap.size := HB3.out.size
        clear hb5 HO4 HB34 HB4
        by_cases hgo : 0 ≤ at_ ∧ at_ < (L : Int) ∧ y ≠ 0
        · obtain ⟨h1, h2, h3⟩ := hgo
          obtain ⟨i, rfl⟩ : ∃ i : Nat, at_ = i := ⟨at_.toNat, by omega⟩
          have x3 : ¬ (i : Int) < 0 := by omega
          have x4 : ¬ (L : Int) ≤ (i : Int) := by omega
          have x5 : ((y : Int) == 0) = false := by rw [beq_eq_false_iff_ne]; omega
          obtain ⟨g, rfl, hg⟩ := own_first HO5.out (by omega)
          have hv := getD_lt HE8.out i
          have hr0 : w5.cell? ⟨g, i, none⟩ = some (.int .u8 ((pdEnc s).getD i 0 : Nat)) := by
            rw [HO5.out.cellAt _ (by omega), u8s_at _ (by rw [HL.out]; omega)]
          have hr1 : w5.frozen? ⟨g, i, none⟩ = false := HO5.out.frozenAt _
          have hx8 := xor8i hv (show y < 256 by omega)
          have hst := HO5.out.stored i (.int .u8 (((pdEnc s).getD i 0 ^^^ y : Nat) : Nat))
          rw [← u8s_set] at hst
          have hset8 : bytes8 ((pdEnc s).set i ((pdEnc s).getD i 0 ^^^ y)) := by
            intro x hx
            rcases List.mem_or_eq_of_mem_set hx with h | h
            · exact HE8.out x h
            · rw [h]; exact xor8 hv (by omega)
          have htn := fun q => pd_turned (k := k) (q := q) HKK.out HSO.out HRT.out
          have hls : ((pdEnc s).set i ((pdEnc s).getD i 0 ^^^ y)).length = L := by rw [List.length_set]; exact HL.out
          have hbq : Below wa.heap.size wa (w5.setCell ⟨g, i, none⟩ (.int .u8 ((pdEnc s).getD i 0 ^^^ y : Nat))) := HB5.out.setCell (p := ⟨g, i, none⟩) (by show wa.heap.size ≤ g; omega) _
          obtain ⟨w6, hw6⟩ : ∃ w6, w5.setCell ⟨g, i, none⟩ (.int .u8 ((pdEnc s).getD i 0 ^^^ y : Nat)) = w6 := ⟨_, rfl⟩
          rw [hw6] at hst hbq
          have HTN := Lib.hid (fun q hqo hq => htn q hqo i y (by rw [HL.out]; omega) h3 hq)
          obtain ⟨X, hX⟩ : ∃ X, (pdEnc s).set i ((pdEnc s).getD i 0 ^^^ y) = X := ⟨_, rfl⟩
          rw [hX] at HTN hst hset8 hls
          rw [← hls] at hst
          have HD6 := Lib.hid (opd_decode (some ⟨g, 0, none⟩) c4 X w6 (at8_own hst.1) hset8 (by omega) (own_cap9 hst.1))
          rw [hls] at HD6
          have HX8 := Lib.hid hset8
          have HXL := Lib.hid hls
          have HB6 := Lib.hid hbq
          have HW6 := Lib.hid hw6
          obtain ⟨v, hv2⟩ : ∃ v, (pdEnc s).getD i 0 = v := ⟨_, rfl⟩
          rw [hv2] at hr0 hx8 HW6
          obtain ⟨z, hz⟩ : ∃ z, v ^^^ y = z := ⟨_, rfl⟩
          rw [hz] at hx8 HW6
          have x6 : (i : Int) < (L : Int) := by omega
          clear hst hset8 htn hls hbq hw6 hX hv hv2 hz h1 h2 h3 HO5 HSC
          go_upto_region 13 with fail
          rw [HW6.out]
          clear hr0 hr1 hx8 HW6
          go_wp2_with fail
          refine HD6.out.mono ?_
          rintro e w7 ⟨q, A7, c7, err, rfl, hd7, hs7, _, hb7⟩
          have HB7 := Lib.hid (HB6.out.trans (hb7.out.mono HB6.out.size))
          unfold pdV pdA
          obtain ⟨w8, hw8⟩ : ∃ w8, w7.alloc (.cells #[.int .i64 q.kind, .int .i64 q.dir, .int .i64 q.train, .int .u32 (q.a : Nat), .int .u32 (q.b : Nat), .slice A7 q.body.length c7, .int .u64 (q.mac : Nat)] 26) = w8 := ⟨_, rfl⟩
          have hb78 : Below w7.heap.size w7 w8 := by rw [← hw8]; exact (Below.refl _ _).alloc (Nat.le_refl _) _
          have hh8 : Has w8 w7.heap.size 26 (pdA q A7 c7) := by rw [← hw8]; exact Has.made _ _ _
          have HB8 := Lib.hid (HB7.out.trans (hb78.mono HB7.out.size))
          have hs8 := hs7.out.under hb78
          have HW8 := Lib.hid hw8
          clear hb7 hs7 hb78 hw8 HB7 HB6 HD6
          rcases hd7 with ⟨h1, rfl⟩ | ⟨_, rfl, rfl⟩
          · have hqo := dec_ok HX8.out h1
            have hnr := HTN.out q hqo h1
            have hql : q.body.length ≤ 2000 := by
              have h := dec_len (xs := X) (p := q) (a := 0) (.inl ⟨h1, rfl⟩)
              have := HXL.out
              omega
            have HR8 := Lib.hid (opd_right k HKK.out q A7 c7 hqo hql w8 hs8)
            rw [decide_eq_false hnr] at HR8
            unfold keyV keyA pdV pdA at HR8
            obtain ⟨q0, q1, q2, q3, q4, q5, q6⟩ := has_seven hh8
            obtain ⟨⟨c0, c1, c2, c3⟩, _⟩ := HC.out w8 HB8.out
            clear h1 hqo hnr hh8 hs8 HTN HX8
            go_upto_region 14 with fail
            rw [HW8.out]
            clear HW8
            go_wp2_with fail
            refine HR8.out.mono ?_
            rintro e w9 ⟨rfl, hb9⟩
            have HBF := Lib.hid ((HBA.out.trans (HB8.out.mono HBA.out.size)).trans (hb9.mono (HBA.out.trans (HB8.out.mono HBA.out.size)).size))
            clear hb9
            go_wp2
            go_ret
            exact ⟨rfl, HBF.out⟩
          · have HBF := Lib.hid (HBA.out.trans (HB8.out.mono HBA.out.size))
            clear HTN HX8 hs8 hh8
            go_upto_region 14 with fail
            rw [HW8.out]
            clear HW8
            go_wp2
            go_ret
            exact ⟨rfl, HBF.out⟩
        · have x3 : at_ < 0 ∨ (0 ≤ at_ ∧ (L : Int) ≤ at_) ∨ (0 ≤ at_ ∧ at_ < (L : Int) ∧ y = 0) := by omega
          have HBF := Lib.hid (HBA.out.trans (HB5.out.mono HBA.out.size))
          clear hgo HO5 HSC HC HK HKK HRT HE8 HSO HSS HQM
          rcases x3 with h | ⟨h, h2⟩ | ⟨h, h2, rfl⟩
          · go_wp2
            go_ret
            exact ⟨rfl, HBF.out⟩
          · have x4 : ¬ at_ < 0 := by omega
            go_wp2
            go_ret
            exact ⟨rfl, HBF.out⟩
          · have x4 : ¬ at_ < 0 := by omega
            have x5 : ¬ (L : Int) ≤ at_ := by omega
            go_wp2
            go_ret
            exact ⟨rfl, HBF.out⟩
    · rw [if_neg hm] at HE3
      have hr : decide (pdRight k s) = false := by rw [decide_eq_false_iff_not]; exact fun h => hm h.1
      rw [hr] at HR
      unfold pdV pdA at HE3 HR
      unfold keyV keyA at HR
      clear hm hr
      go_upto_region 5 with fail
      rw [HW3.out]
      clear HW3
      go_wp2_with fail
      refine HE3.out.mono ?_
      rintro e w4 ⟨A4, c4, rfl, ho4, hb4⟩
      clear q0 q1 q2 q3 q4 q5 q6
      obtain ⟨q0, q1, q2, q3, q4, q5, q6⟩ := HSC.out w4 hb4.out
      obtain ⟨⟨c0, c1, c2, c3⟩, k0, k1, k2, k3, k4, k5, k6⟩ := HC.out w4 (HB3.out.trans (hb4.out.mono HB3.out.size))
      have HB4 := Lib.hid hb4.out
      clear ho4 hb4 HE3
      go_wp2_with fail
      refine (HR.out _ HB4.out).mono ?_
      rintro e w5 ⟨rfl, hb5⟩
      have HBF := Lib.hid ((HW3'.out.trans (HB4.out.mono HW3'.out.size)).trans (hb5.mono (HW3'.out.trans (HB4.out.mono HW3'.out.size)).size))
      clear hb5
      go_wp2
      go_ret
      exact ⟨rfl, HBF.out⟩
  · have x1 : (2000 : Int) < (p.body.length : Int) := by omega
    have HBF := Lib.hid (HBA.out.trans (HB1.out.mono HBA.out.size))
    clear HB1 HC HSL HK HKK
    go_wp2
    go_ret
    exact ⟨rfl, HBF.out⟩
end Go.Proofs.Ytojbinpicoeppaa
