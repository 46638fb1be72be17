/-
  package pdu as landed: Encode, code, Right.
-/
import Derived.Test.YtojbinpicoeppaaPdOwnT
namespace Go.Proofs.Ytojbinpicoeppaa
open Go.RowKit
open Go.Great

/-- Text, in a world that grew from an elder one. -/
theorem opd_textU (W0 : World) (p : Pdu) (A : Option Addr) (c : Nat) (hk : p.ok) (hn : p.body.length ≤ 2000) (W : World) (hs : Sl W 1 A p.body.length c (u8s p.body)) (hW : Below W0.heap.size W0 W) :
    Calls Try.prog 12 #[pdV p A c] W fun e w' => ∃ A' c', e = .returned (.slice A' (pdText p).length c') ∧ Hid (w'.ownsRow W.heap.size 5 1 (.slice A' (pdText p).length c') (pdText p).length (u8s (pdText p))) ∧ Hid (Below W.heap.size W w') ∧ Below W0.heap.size W0 w' :=
  (opd_text p A c hk hn W hs).mono fun _ _ ⟨A', c', h1, h2, h3⟩ => ⟨A', c', h1, h2, h3, hW.trans (h3.out.mono hW.size)⟩
theorem pdText_le (p : Pdu) : (pdText p).length ≤ 1100 := by
  by_cases hm : pdMay p
  · exact text_len hm
  · unfold pdText; rw [if_neg hm]; simp

set_option maxRecDepth 100000 in
set_option maxHeartbeats 4000000 in
theorem opd_encode (p : Pdu) (A : Option Addr) (c : Nat) (hk : p.ok) (hn : p.body.length ≤ 2000) (w : World) (hs : Sl w 1 A p.body.length c (u8s p.body)) :
    Calls Try.prog 10 #[pdV p A c] w (EncPost (pdEnc p) (if pdMay p then 0 else 1) w) := by
  have HMAY := Lib.hid (fun W => opd_may p A c hk hn W)
  obtain ⟨wa, hwa, hba, hsa, hkc⟩ := pd_box p A c w
  have HBA := Lib.hid hba; have HWA := Lib.hid hwa; have HKC := Lib.hid hkc
  have HT := Lib.hid (fun W (hW : Below wa.heap.size wa W) => opd_textU wa p A c hk hn W (Sl.under hs (hba.trans (hW.mono hba.size))) hW)
  have HH := Lib.hid (fun W => opd_has p.kind W)
  obtain ⟨k0, k1, k2, k3, k4, k5, k6⟩ := hkc wa (Below.refl _ _)
  unfold EncPost
  by_cases hm : pdMay p
  · rw [if_pos hm]
    rw [decide_eq_true hm] at HMAY
    have hl := text_len hm
    have hmac := hk.2.2.2
    have hkk : 1 ≤ p.kind := by have := hm.2.2; unfold pdForm at this; omega
    have hen : pdEnc p = pdText p ++ (if 1 < p.kind then beB p.mac 8 else []) := by unfold pdEnc pdEncV pdText; rw [if_pos hm, if_pos hm]
    rw [hen]
    have HXM := Lib.hid (fun W (hW : Below wa.heap.size wa W) => opd_bytesU wa p.mac 8 (p.mac : Nat) 8 rfl rfl hmac (by decide) W hW)
    unfold pdV pdA at *
    clear hba hwa hkc hsa hs hk hm hen
    generalize pdText p = T at *
    by_cases h1 : p.kind = 1
    · have hE : T ++ (if 1 < p.kind then beB p.mac 8 else []) = T := by rw [if_neg (by omega), List.append_nil]
      rw [hE]
      rw [decide_eq_false (by simpa using h1)] at HH
      clear hE h1 hkk hmac
      go_enter Try.func10, Try.ntmps10
      go_wp2_with fail
      rw [HWA.out]
      clear HWA
      refine (HMAY.out _).mono ?_
      rintro e w1 ⟨rfl, hb1⟩
      have HB1 := Lib.hid hb1
      clear hb1 k0 k1 k2 k3 k4 k5 k6 HMAY
      obtain ⟨k0, k1, k2, k3, k4, k5, k6⟩ := HKC.out w1 HB1.out
      go_wp2_with fail
      refine (HH.out _).mono ?_
      rintro e w1' ⟨rfl, rfl⟩
      go_wp2_with fail
      refine (HT.out _ HB1.out).mono ?_
      rintro e w2 ⟨A2, c2, rfl, ho2, hb2, hc2⟩
      have HO := Lib.hid (own_lower ho2.out (Nat.le_trans HBA.out.size HB1.out.size))
      have HB := Lib.hid (HBA.out.trans (hc2.mono HBA.out.size))
      clear ho2 hb2 hc2 k0 k1 k2 k3 k4 k5 k6
      go_wp2
      go_ret2
      exact ⟨A2, c2, rfl, HO, HB⟩
    · have hE : T ++ (if 1 < p.kind then beB p.mac 8 else []) = T ++ beB p.mac 8 := by rw [if_pos (by omega)]
      rw [hE]
      rw [decide_eq_true (by simpa using h1)] at HH
      have HT2 : Hid (∀ (A2 A3 : Option Addr) (c2 c3 : Nat), cat9 [⟨A2, T.length, c2, T⟩, ⟨A3, 8, c3, beB p.mac 8⟩] = T ++ beB p.mac 8) := Lib.hid (fun _ _ _ _ => by simp [cat9])
      have HJ := Lib.hid (fun (A2 A3 : Option Addr) (c2 c3 : Nat) (W : World) (hW : Below wa.heap.size wa W) (h2 : Sl W 1 A2 T.length c2 (u8s T)) (h3 : Sl W 1 A3 8 c3 (u8s (beB p.mac 8))) => opd_joinU [⟨A2, T.length, c2, T⟩, ⟨A3, 8, c3, beB p.mac 8⟩] 2 rfl (by decide) w wa W HBA.out hW ⟨⟨h2, rfl, by show T.length ≤ 2000; omega⟩, ⟨h3, rfl, Nat.le_of_ble_eq_true rfl⟩, trivial⟩ _ rfl)
      clear hE h1 hkk hmac
      go_enter Try.func10, Try.ntmps10
      go_wp2_with fail
      rw [HWA.out]
      clear HWA
      refine (HMAY.out _).mono ?_
      rintro e w1 ⟨rfl, hb1⟩
      have HB1 := Lib.hid hb1
      clear hb1 k0 k1 k2 k3 k4 k5 k6 HMAY
      obtain ⟨k0, k1, k2, k3, k4, k5, k6⟩ := HKC.out w1 HB1.out
      go_wp2_with fail
      refine (HH.out _).mono ?_
      rintro e w1' ⟨rfl, rfl⟩
      have hbd := HB1.out
      have hbd2 := below_dr HB1.out
      go_upto_region 5 with fail
      go_region_held3 (fun W => W.cell? ⟨w.heap.size, 0, none⟩ = some (.int .i64 p.kind) ∧ W.cell? ⟨w.heap.size, 1, none⟩ = some (.int .i64 p.dir) ∧ W.cell? ⟨w.heap.size, 2, none⟩ = some (.int .i64 p.train) ∧ W.cell? ⟨w.heap.size, 3, none⟩ = some (.int .u32 (p.a : Nat)) ∧ W.cell? ⟨w.heap.size, 4, none⟩ = some (.int .u32 (p.b : Nat)) ∧ W.cell? ⟨w.heap.size, 5, none⟩ = some (.slice A p.body.length c) ∧ W.cell? ⟨w.heap.size, 6, none⟩ = some (.int .u64 (p.mac : Nat)))
        (first | exact HKC.out _ (by assumption) | go_keep) (first
        | (go_at_call 12; (with_reducible refine (HT.out _ (by assumption)).mono ?_); rintro e wT ⟨A2, c2, rfl, hoT, hbT, hcT⟩)
        | (go_at_call 25; (with_reducible refine (HXM.out _ (by assumption)).mono ?_); rintro e wB ⟨A3, c3, rfl, hoB, hbB, hcB⟩)
        | (go_at_call 24; have hq2 := Sl.of_own (own_under hoT.out hbB.out (Nat.le_refl _)); have hq3 := Sl.of_own hoB.out; refine (HJ.out A2 A3 c2 c3 wB hcB hq2 hq3).mono ?_; rintro e w9 ⟨A9, c9, rfl, ho9, hb9, hc9⟩)
        | (go_at_call 24; have hq3 := Sl.of_own (own_under hoB.out hbT.out (Nat.le_refl _)); have hq2 := Sl.of_own hoT.out; refine (HJ.out A2 A3 c2 c3 wT hcT hq2 hq3).mono ?_; rintro e w9 ⟨A9, c9, rfl, ho9, hb9, hc9⟩))
      all_goals
        rw [HT2.out] at ho9
        go_wp2
        go_ret2
        rw [HT2.out]
        exact ⟨A9, c9, rfl, ho9, hb9⟩
  · have he : pdEnc p = [] := by unfold pdEnc; rw [if_neg hm]
    rw [he, if_neg hm]
    rw [decide_eq_false hm] at HMAY
    unfold pdV pdA at *
    clear hba hwa hkc hsa hs hk hm he HT HH
    go_enter Try.func10, Try.ntmps10
    go_wp2_with fail
    rw [HWA.out]
    clear HWA
    refine (HMAY.out _).mono ?_
    rintro e w1 ⟨rfl, hb1⟩
    have HB1 := Lib.hid (HBA.out.trans (hb1.mono HBA.out.size))
    clear hb1 k0 k1 k2 k3 k4 k5 k6 HMAY
    go_wp2
    go_ret2
    exact ⟨none, 0, rfl, Lib.hid (World.ownsRow_nil _ _ _ _), HB1⟩
end Go.Proofs.Ytojbinpicoeppaa
