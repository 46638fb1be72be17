/-
  linesideref09: Text of any PDU, Encode, by contract.
-/
import Derived.Test.YtojbinpicoeppaaPdText
namespace Go.Proofs.Ytojbinpicoeppaa
open Go.RowKit

theorem text_any {p : Pdu} {A : Option Addr} {c : Nat} {w : World} {n : Nat} {xs : List Nat} (h : Calls Try.prog 13 #[pdV p A c] w fun e w' => ∃ A' c', e = .returned (.slice A' n c') ∧ Hid (w'.ownsRow w.heap.size 5 1 (.slice A' n c') n (u8s xs)) ∧ Hid (Below w.heap.size w w'))
    (hx : xs = pdText p) (hn : n = xs.length) : Calls Try.prog 13 #[pdV p A c] w fun e w' => ∃ A' c', e = .returned (.slice A' (pdText p).length c') ∧ Hid (w'.ownsRow w.heap.size 5 1 (.slice A' (pdText p).length c') (pdText p).length (u8s (pdText p))) ∧ Hid (Below w.heap.size w w') := by
  subst hn; subst hx
  exact h
set_option maxRecDepth 100000 in
set_option maxHeartbeats 2000000 in
theorem ref_text (p : Pdu) (A : Option Addr) (c : Nat) (hk : p.ok) (hn : p.body.length ≤ 2000) (w : World) (hs : Sl w 1 A p.body.length c (u8s p.body)) :
    Calls Try.prog 13 #[pdV p A c] w fun e w' => ∃ A' c', e = .returned (.slice A' (pdText p).length c') ∧ Hid (w'.ownsRow w.heap.size 5 1 (.slice A' (pdText p).length c') (pdText p).length (u8s (pdText p))) ∧ Hid (Below w.heap.size w w') := by
  by_cases hm : pdMay p
  · have hp : pdText p = pdTextV p := by unfold pdText; rw [if_pos hm]
    obtain ⟨kind, dir, train, a, b, body, mac⟩ := p
    obtain ⟨t, rfl⟩ : ∃ t : Nat, train = t := ⟨train.toNat, by have : 0 ≤ train := hm.1; omega⟩
    have hf := hm.2.2
    unfold pdForm at hf
    simp only at hf
    rcases hf with ⟨rfl, rfl, _, _, hl⟩ | ⟨rfl, rfl, hl⟩ | ⟨rfl, rfl, hl⟩ | ⟨rfl, rfl | rfl, _, hl1, hl2⟩ | ⟨rfl, rfl | rfl, _, hl⟩
    · exact text_any (text1 t a b body mac A c hk hm w hs) (by rw [hp]; simp [pdTextV]) (by simp [be_len]; omega)
    · exact text_any (text2 t a b body mac A c hk hm w hs) (by rw [hp]; simp [pdTextV]) (by simp [be_len]; omega)
    · exact text_any (text3 t a b body mac A c hk hm w hs) (by rw [hp]; simp [pdTextV]) (by simp [be_len]; omega)
    · exact text_any (text50 t a b body mac A c hk hm w hs) (by rw [hp]; simp [pdTextV]) (by simp [be_len]; omega)
    · exact text_any (text51 t a b body mac A c hk hm w hs) (by rw [hp]; simp [pdTextV]) (by simp [be_len]; omega)
    · exact text_any (text60 t a b body mac A c hk hm w hs) (by rw [hp]; simp [pdTextV]) (by simp [be_len]; omega)
    · exact text_any (text61 t a b body mac A c hk hm w hs) (by rw [hp]; simp [pdTextV]) (by simp [be_len]; omega)
  · have hp : pdText p = [] := by unfold pdText; rw [if_neg hm]
    rw [hp]
    have HMAY := Lib.hid (fun W => ref_may p A c hk (by omega) W)
    rw [decide_eq_false hm] at HMAY
    obtain ⟨wa, hwa, hba, hsa, hkc⟩ := pd_box p A c w
    have HBA := Lib.hid hba; have HWA := Lib.hid hwa
    obtain ⟨k0, k1, k2, k3, k4, k5, k6⟩ := hkc wa (Below.refl _ _)
    unfold pdV pdA at *
    clear hba hwa hkc hsa hs hk hm hp
    go_enter Try.func13, Try.ntmps13
    go_wp2_with fail
    rw [HWA.out]
    clear HWA
    refine (HMAY.out _).mono ?_
    rintro e w1 ⟨rfl, hb1⟩
    have HB1 := Lib.hid (HBA.out.trans (hb1.mono HBA.out.size))
    clear hb1 k0 k1 k2 k3 k4 k5 k6 HMAY
    go_wp2
    go_ret
    exact ⟨none, 0, rfl, Lib.hid (World.ownsRow_nil _ _ _ _), HB1⟩

set_option maxRecDepth 100000 in
set_option maxHeartbeats 4000000 in
theorem ref_encode (p : Pdu) (A : Option Addr) (c : Nat) (hk : p.ok) (hn : p.body.length ≤ 2000) (w : World) (hs : Sl w 1 A p.body.length c (u8s p.body)) :
    Calls Try.prog 11 #[pdV p A c] w fun e w' => ∃ A' c', e = .returned (.tuple #[.slice A' (pdEnc p).length c', .int .i64 (if pdMay p then 0 else 1)]) ∧ Hid (w'.ownsRow w.heap.size 5 1 (.slice A' (pdEnc p).length c') (pdEnc p).length (u8s (pdEnc p))) ∧ Hid (Below w.heap.size w w') := by
  have HMAY := Lib.hid (fun W => ref_may p A c hk (by omega) W)
  obtain ⟨wa, hwa, hba, hsa, hkc⟩ := pd_box p A c w
  have HBA := Lib.hid hba; have HWA := Lib.hid hwa; have HKC := Lib.hid hkc
  have HT := Lib.hid (fun W (hW : Below w.heap.size w W) => ref_text p A c hk hn W (Sl.under hs hW))
  by_cases hm : pdMay p
  · rw [if_pos hm]
    rw [decide_eq_true hm] at HMAY
    have hl := text_len hm
    have hmac := hk.2.2.2
    obtain ⟨k0, k1, k2, k3, k4, k5, k6⟩ := HKC.out wa (Below.refl _ _)
    have hen : pdEnc p = pdText p ++ (if 1 < p.kind then beB p.mac 8 else []) := by unfold pdEnc pdEncV pdText; rw [if_pos hm, if_pos hm]
    rw [hen]
    obtain ⟨EN, hEN⟩ : ∃ EN, pdText p ++ (if 1 < p.kind then beB p.mac 8 else []) = EN := ⟨_, rfl⟩
    rw [hEN]
    have HEN := Lib.hid hEN
    unfold pdV pdA at *
    clear hba hwa hkc hsa hs hk hm hen hEN
    go_enter Try.func11, Try.ntmps11
    go_wp2_with fail
    rw [HWA.out]
    clear HWA
    refine (HMAY.out _).mono ?_
    rintro e w1 ⟨rfl, hb1⟩
    have HB1 := Lib.hid hb1
    clear hb1 k0 k1 k2 k3 k4 k5 k6 HMAY
    obtain ⟨k0, k1, k2, k3, k4, k5, k6⟩ := HKC.out w1 HB1.out
    go_wp2_with fail
    refine (HT.out _ (HBA.out.trans (HB1.out.mono HBA.out.size))).mono ?_
    rintro e w2 ⟨A2, c2, rfl, ho2, hb2⟩
    have hw12 : w.heap.size ≤ w1.heap.size := Nat.le_trans HBA.out.size HB1.out.size
    have HO2 := Lib.hid (own_lower ho2.out hw12)
    have HB2 := Lib.hid (HB1.out.trans (hb2.out.mono HB1.out.size))
    have HW2 := Lib.hid (HBA.out.trans (HB2.out.mono HBA.out.size))
    clear ho2 hb2 k0 k1 k2 k3 k4 k5 k6 HT
    obtain ⟨k0, k1, k2, k3, k4, k5, k6⟩ := HKC.out w2 HB2.out
    generalize pdText p = T at *
    by_cases hkd : 1 < p.kind
    · have HE : Hid (EN = T ++ beB p.mac 8) := Lib.hid (by rw [← HEN.out, if_pos hkd])
      have HP := Lib.hid (ref_put w.heap.size w A2 T.length c2 T p.mac p.mac rfl hmac 8 8 rfl (by decide) w2 HW2.out HW2.out.size HO2.out (by omega))
      have e8 : (T ++ beB p.mac 8).length = T.length + 8 := by simp [be_len]
      have HE8 := Lib.hid e8
      clear HB1 HB2 HW2 HO2 hmac e8 HEN
      go_wp2_with fail
      refine HP.out.mono ?_
      rintro e w3 ⟨A3, c3, rfl, ho3, hb3⟩
      clear k0 k1 k2 k3 k4 k5 k6 HP
      go_wp2
      go_ret2
      rw [HE.out, HE8.out]
      exact ⟨A3, c3, rfl, ho3, hb3⟩
    · have HE : Hid (EN = T) := Lib.hid (by rw [← HEN.out, if_neg hkd, List.append_nil])
      clear HB1 HB2 HEN
      go_wp2
      go_ret2
      rw [HE.out]
      exact ⟨A2, c2, rfl, HO2, HW2⟩
  · have hp : pdEnc p = [] := by unfold pdEnc; rw [if_neg hm]
    rw [hp, if_neg hm]
    rw [decide_eq_false hm] at HMAY
    obtain ⟨k0, k1, k2, k3, k4, k5, k6⟩ := hkc wa (Below.refl _ _)
    unfold pdV pdA at *
    clear hba hwa hkc hsa hs hk hm hp HT HKC
    go_enter Try.func11, Try.ntmps11
    go_wp2_with fail
    rw [HWA.out]
    clear HWA
    refine (HMAY.out _).mono ?_
    rintro e w1 ⟨rfl, hb1⟩
    have HB1 := Lib.hid (HBA.out.trans (hb1.mono HBA.out.size))
    clear hb1 k0 k1 k2 k3 k4 k5 k6 HMAY
    go_wp2
    go_ret2
    exact ⟨none, 0, rfl, Lib.hid (World.ownsRow_nil _ _ _ _), HB1⟩
end Go.Proofs.Ytojbinpicoeppaa
