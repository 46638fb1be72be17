/-
  linesidelaw09.PduBack, walked.
-/
import Derived.Test.YtojbinpicoeppaaLawPduDecodes
namespace Go.Proofs.Ytojbinpicoeppaa
open Go.RowKit
open Go.Great

set_option maxRecDepth 100000 in
set_option maxHeartbeats 4000000 in
theorem pduBack_walk (p : Pdu) (A : Option Addr) (c : Nat) (w : World) (hk : p.ok) (_hm : p.body.length ≤ maxLen) (_hc : p.body.length ≤ c) (hs : Sl w 1 A p.body.length c (u8s p.body)) :
    Calls Try.prog 6 #[pdV p A c] w fun e w' => e = .returned (.bool true) ∧ Below w.heap.size w w' := by
  obtain ⟨wa, hwa, hba, hsa, hkc⟩ := pd_box p A c w
  have hsl := fun W (hW : Below w.heap.size w W) => Sl.under hs hW
  have HA := Lib.hid (awake9_any wa)
  have HWA := Lib.hid hwa; have HBA := Lib.hid hba; have HKC := Lib.hid hkc; have HSL := Lib.hid hsl; have HK := Lib.hid hk
  obtain ⟨k0, k1, k2, k3, k4, k5, k6⟩ := hkc wa (Below.refl _ _)
  unfold maxLen at _hm
  clear hwa hba hsa hkc hsl hs hk
  unfold pdV pdA at *
  go_enter Try.func6, Try.ntmps6
  go_wp2_with fail
  rw [HWA.out]
  clear HWA
  refine HA.out.mono ?_
  rintro e w1 ⟨rfl, hb1⟩
  clear HA k0 k1 k2 k3 k4 k5 k6
  obtain ⟨k0, k1, k2, k3, k4, k5, k6⟩ := HKC.out w1 hb1
  have HB1 := Lib.hid hb1
  clear hb1
  by_cases hin : p.body.length ≤ 2000
  · have x1 : ¬ (2000 : Int) < (p.body.length : Int) := by omega
    have HE1 := Lib.hid (opd_encode p A c HK.out hin w1 (HSL.out w1 (HBA.out.trans (HB1.out.mono HBA.out.size))))
    by_cases hm : pdMay p
    · rw [if_pos hm] at HE1
      have he := pd_dec_enc HK.out hm
      have hel : (pdEnc p).length ≤ 2000 := enc_len hm
      have he8 := enc_8 HK.out
      have HM := Lib.hid (fun W => opd_may p A c HK.out hin W)
      rw [decide_eq_true hm] at HM
      have HDE := Lib.hid he; have HE8 := Lib.hid he8
      unfold EncPost at HE1
      unfold pdV pdA at HE1 HM
      clear he he8 hm
      go_wp2_with fail
      refine HE1.out.mono ?_
      rintro e w2 ⟨A2, c2, rfl, ho2, hb2⟩
      clear HE1 k0 k1 k2 k3 k4 k5 k6
      have HB2 := Lib.hid (HB1.out.trans (hb2.out.mono HB1.out.size))
      have HD2 := Lib.hid (opd_decode A2 c2 (pdEnc p) w2 (at8_own ho2.out) HE8.out hel (own_cap9 ho2.out))
      clear ho2 hb2 HB1
      go_wp2_with fail
      refine HD2.out.mono ?_
      rintro e w3 ⟨q, A3, c3, err, rfl, hd3, hs3, _, hb3⟩
      have hq : p = q ∧ err = 0 := by
        rcases hd3 with ⟨h1, h2⟩ | ⟨h1, _⟩
        · rw [HDE.out] at h1
          injection h1 with h1
          exact ⟨h1, h2⟩
        · rw [HDE.out] at h1; cases h1
      obtain ⟨rfl, rfl⟩ := hq
      unfold pdV pdA
      obtain ⟨w4, hw4⟩ : ∃ w4, w3.alloc (.cells #[.int .i64 p.kind, .int .i64 p.dir, .int .i64 p.train, .int .u32 (p.a : Nat), .int .u32 (p.b : Nat), .slice A3 p.body.length c3, .int .u64 (p.mac : Nat)] 26) = w4 := ⟨_, rfl⟩
      have hb34 : Below w3.heap.size w3 w4 := by rw [← hw4]; exact (Below.refl _ _).alloc (Nat.le_refl _) _
      have hh4 : Has w4 w3.heap.size 26 (pdA p A3 c3) := by rw [← hw4]; exact Has.made _ _ _
      have HB4 := Lib.hid ((HB2.out.trans (hb3.out.mono HB2.out.size)).trans (hb34.mono (HB2.out.trans (hb3.out.mono HB2.out.size)).size))
      have HSM := Lib.hid (ref_same p p A A3 c c3 HK.out.2.2.1 HK.out.2.2.1 w4 (HSL.out w4 (HBA.out.trans (HB4.out.mono HBA.out.size))) (hs3.out.under hb34))
      rw [pdEq_self] at HSM
      unfold pdV pdA at HSM
      obtain ⟨k0, k1, k2, k3, k4, k5, k6⟩ := HKC.out w4 HB4.out
      obtain ⟨q0, q1, q2, q3, q4, q5, q6⟩ := has_seven hh4
      have HW4 := Lib.hid hw4
      clear hw4 hb34 hh4 hb3 hs3 hd3 HB2 HD2
      go_upto_region 8 with fail
      rw [HW4.out]
      clear HW4
      go_wp2_with fail
      refine HSM.out.mono ?_
      rintro e w5 ⟨rfl, hb5⟩
      clear k0 k1 k2 k3 k4 k5 k6 q0 q1 q2 q3 q4 q5 q6 HSM
      have HB5 := Lib.hid (HB4.out.trans (hb5.mono HB4.out.size))
      clear hb5 HB4
      obtain ⟨k0, k1, k2, k3, k4, k5, k6⟩ := HKC.out w5 HB5.out
      go_wp2_with fail
      refine (HM.out _).mono ?_
      rintro e w6 ⟨rfl, hb6⟩
      have HBF := Lib.hid ((HBA.out.trans (HB5.out.mono HBA.out.size)).trans (hb6.mono (HBA.out.trans (HB5.out.mono HBA.out.size)).size))
      clear hb6
      go_wp2
      go_ret
      exact ⟨rfl, HBF.out⟩
    · rw [if_neg hm] at HE1
      have hz : pdEnc p = [] := by unfold pdEnc; rw [if_neg hm]
      rw [hz] at HE1
      have HM := Lib.hid (fun W => opd_may p A c HK.out hin W)
      rw [decide_eq_false hm] at HM
      unfold EncPost at HE1
      unfold pdV pdA at HE1 HM
      clear hm hz
      go_wp2_with fail
      refine HE1.out.mono ?_
      rintro e w2 ⟨A2, c2, rfl, ho2, hb2⟩
      clear HE1 k0 k1 k2 k3 k4 k5 k6 ho2
      have HB2 := Lib.hid (HB1.out.trans (hb2.out.mono HB1.out.size))
      obtain ⟨k0, k1, k2, k3, k4, k5, k6⟩ := HKC.out w2 HB2.out
      clear hb2 HB1
      go_wp2_with fail
      refine (HM.out _).mono ?_
      rintro e w6 ⟨rfl, hb6⟩
      have HBF := Lib.hid ((HBA.out.trans (HB2.out.mono HBA.out.size)).trans (hb6.mono (HBA.out.trans (HB2.out.mono HBA.out.size)).size))
      clear hb6
      go_wp2
      go_ret
      exact ⟨rfl, HBF.out⟩
  · have x1 : (2000 : Int) < (p.body.length : Int) := by omega
    have HBF := Lib.hid (HBA.out.trans (HB1.out.mono HBA.out.size))
    clear HB1 HKC HSL HK
    go_wp2
    go_ret
    exact ⟨rfl, HBF.out⟩
end Go.Proofs.Ytojbinpicoeppaa
