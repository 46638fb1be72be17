/-
  linesidelaw09: awake.
-/
import Derived.Test.YtojbinpicoeppaaPdOwnD
import Derived.Test.YtojbinpicoeppaaCut
import Derived.Deep.RegionHeld3
namespace Go.Proofs.Ytojbinpicoeppaa
open Go.RowKit
open Go.Great

def k9 : Key4 := ⟨1, 2, 3, 4⟩
def p9 : Pdu := ⟨1, 0, 5, 1, 0, [], 0⟩
def t9 : Pdu := ⟨5, 1, 5, 0, 2, [9], 0⟩
theorem k9_ok : k9.ok := ⟨by decide, by decide, by decide, by decide⟩
theorem p9_ok : p9.ok := ⟨by decide, by decide, fun x hx => (by cases hx), by decide⟩
theorem t9_ok : t9.ok := ⟨by decide, by decide, fun x hx => (by simp [t9] at hx; omega), by decide⟩
theorem p9_may : pdMay p9 := by decide
theorem t9_may : pdMay t9 := by decide
theorem p9_enc : pdEnc p9 = [2, 0, 0, 5, 0, 0, 0, 1] := by decide
theorem t9_text : pdText t9 = [11, 0, 0, 5, 0, 0, 0, 2, 0, 1, 9] := by decide
theorem t9_seal : pdSeal k9 t9 = ⟨5, 1, 5, 0, 2, [9], macF k9 (pdText t9)⟩ := by
  unfold pdSeal; rw [if_pos ⟨t9_may, by decide⟩]; rfl
theorem t9_enc (m : Nat) : pdEnc ⟨5, 1, 5, 0, 2, [9], m⟩ = pdText t9 ++ beB m 8 := by
  have hm : pdMay ⟨5, 1, 5, 0, 2, [9], m⟩ := (may_mac t9 m (by decide)).2 t9_may
  unfold pdEnc pdEncV pdText
  rw [if_pos hm, if_pos t9_may]
  rfl
theorem at8_nine (W : World) : Sl (W.alloc (.cells #[.int .u8 9] 5)) 1 (some ⟨W.heap.size, 0, none⟩) 1 1 (u8s [9]) := by
  refine ⟨rfl, (fun e => by cases e), fun ad ha j u hu => ?_⟩
  cases ha
  rw [WideShapes.add_plain, (Has.made W _ _).cell, Nat.zero_add]
  simpa [u8s] using hu
set_option maxRecDepth 100000 in
set_option maxHeartbeats 4000000 in
theorem awake9_any (w : World) : Calls Try.prog 9 #[] w fun e w' => e = .returned (.bool true) ∧ Below w.heap.size w w' := by
  have hmac : macF k9 (pdText t9) < 18446744073709551616 := macF_lt k9_ok (by rw [t9_text]; intro x hx; simp at hx; omega) (by rw [t9_text]; decide)
  have hE1 := opd_encode p9 none 0 p9_ok (by decide) w (sl_nil _ _)
  rw [p9_enc, if_pos p9_may] at hE1
  have hS := fun W => opd_seal k9 k9_ok t9 (some ⟨W.heap.size, 0, none⟩) 1 t9_ok (by decide) (W.alloc (.cells #[.int .u8 9] 5)) (at8_nine W)
  rw [t9_seal] at hS
  obtain ⟨m, hm⟩ : ∃ m, macF k9 (pdText t9) = m := ⟨_, rfl⟩
  rw [hm] at hS hmac
  have hsok : (⟨5, 1, 5, 0, 2, [9], m⟩ : Pdu).ok := ⟨show 0 < 4294967296 by decide, show 2 < 4294967296 by decide, fun x hx => (by simp at hx; omega), hmac⟩
  have hsm : pdMay ⟨5, 1, 5, 0, 2, [9], m⟩ := (may_mac t9 m (by decide)).2 t9_may
  have hE2 := fun A c W => opd_encode ⟨5, 1, 5, 0, 2, [9], m⟩ A c hsok (show 1 ≤ 2000 by decide) W
  have hen := t9_enc m
  rw [t9_text] at hen
  have hdec := pd_dec_enc hsok hsm
  have he8 := enc_8 hsok
  have hri : pdRight k9 ⟨5, 1, 5, 0, 2, [9], m⟩ := ⟨hsm, show (1 : Int) < 5 by decide, by rw [← hm]; exact (congrArg (macF k9) (text_mac t9 _ (by decide))).symm⟩
  have hR := fun A c W => opd_right k9 k9_ok ⟨5, 1, 5, 0, 2, [9], m⟩ A c hsok (show 1 ≤ 2000 by decide) W
  rw [decide_eq_true hri] at hR
  simp only [if_pos hsm] at hE2
  have hlen : (pdEnc ⟨5, 1, 5, 0, 2, [9], m⟩).length = 19 := by rw [hen]; simp [be_len]
  have hD := fun A c W ha hc => opd_decode A c (pdEnc ⟨5, 1, 5, 0, 2, [9], m⟩) W ha he8 (by rw [hlen]; decide) hc
  have htk : (pdEnc ⟨5, 1, 5, 0, 2, [9], m⟩).take 11 = [11, 0, 0, 5, 0, 0, 0, 2, 0, 1, 9] := by rw [hen]; rfl
  obtain ⟨EN, hEN⟩ : ∃ EN, pdEnc ⟨5, 1, 5, 0, 2, [9], m⟩ = EN := ⟨_, rfl⟩
  rw [hEN] at hE2 hdec he8 hlen hD htk
  simp only [hlen] at hD
  unfold EncPost at hE1 hE2
  unfold SealPost at hS
  simp only [hlen] at hE2
  simp only [keyV, keyA, pdV, pdA, k9, p9, t9, Int.cast_ofNat_Int, List.length_nil, List.length_cons, Nat.zero_add, Nat.reduceAdd] at hE1 hS hE2 hR
  have HS := Lib.hid hS; have HE2 := Lib.hid hE2; have HR := Lib.hid hR; have HD := Lib.hid hD; have HE1 := Lib.hid hE1; have HDC := Lib.hid hdec; have H8 := Lib.hid he8; have HTK := Lib.hid htk; have HLN := Lib.hid hlen
  clear hm hen hEN hsm hri hsok hE1 hS hE2 hR hD hdec he8 htk hlen
  go_enter Try.func9, Try.ntmps9
  go_wp2_with fail
  refine HE1.out.mono ?_
  rintro e w1 ⟨A1, c1, rfl, ho1, hb1⟩
  clear HE1
  go_wp2_with fail
  refine (HS.out _).mono ?_
  rintro e w2 ⟨A2, r2, rfl, hs2, _, _, hb2'⟩
  have hb2 := hb2'.out
  have hb12 := hb1.out.trans (((Below.refl w1.heap.size w1).alloc (Nat.le_refl _) (.cells #[.int .u8 9] 5)).trans (hb2.mono (by simp)) |>.mono hb1.out.size)
  obtain ⟨w3, hw3⟩ : ∃ w3, w2.alloc (.cells #[.int .i64 5, .int .i64 1, .int .i64 5, .int .u32 0, .int .u32 2, .slice A2 1 r2, .int .u64 m] 26) = w3 := ⟨_, rfl⟩
  have h3 : Has w3 w2.heap.size 26 #[.int .i64 5, .int .i64 1, .int .i64 5, .int .u32 0, .int .u32 2, .slice A2 1 r2, .int .u64 m] := by rw [← hw3]; exact Has.made _ _ _
  have hb3 : Below w2.heap.size w2 w3 := by rw [← hw3]; exact (Below.refl _ _).alloc (Nat.le_refl _) _
  have hs3 := hs2.out.under hb3
  have HE3 := Lib.hid (HE2.out _ _ w3 hs3)
  have HB3 := Lib.hid (hb12.trans (hb3.mono hb12.size))
  obtain ⟨q0, q1, q2, q3, q4, q5, q6⟩ := has_seven h3
  have HO3 := Lib.hid (own_under (own_under (own_under ho1.out ((Below.refl w1.heap.size w1).alloc (Nat.le_refl _) (.cells #[.int .u8 9] 5)) (Nat.le_refl _)) hb2 (Nat.le_refl _)) hb3 (Nat.le_refl _))
  have HW3 := Lib.hid hw3
  clear hw3 h3 hb3 hs3 hb12 hb2 hb2' hs2 hb1 ho1 HS HE2
  go_upto_region 3 with fail
  rw [HW3.out]
  go_wp2_with fail
  refine HE3.out.mono ?_
  rintro e w4 ⟨A4, c4, rfl, ho4, hb4⟩
  have hcap := own_cap9 ho4.out
  obtain ⟨g4, rfl, _⟩ := own_first ho4.out (by decide)
  have HD4 := Lib.hid (HD.out (some ⟨g4, 0, none⟩) c4 w4 (by have h := at8_own (xs := EN) (c := c4) (A := some ⟨g4, 0, none⟩) (w := w4) (base := w3.heap.size); rw [HLN.out] at h; exact h ho4.out) hcap)
  have HO4 := Lib.hid ho4.out
  have HB4 := Lib.hid (HB3.out.trans (hb4.out.mono HB3.out.size))
  have HO14 := Lib.hid (own_under HO3.out hb4.out (Nat.le_refl _))
  clear q0 q1 q2 q3 q4 q5 q6 ho4 hb4 HE3 HO3 HB3
  go_wp2_with fail
  refine HD4.out.mono ?_
  rintro e w5 ⟨q, A5, c5, err, rfl, hd, hs5, _, hb5⟩
  have hd2 : q = ⟨5, 1, 5, 0, 2, [9], m⟩ ∧ err = 0 := by
    rcases hd with ⟨h1, h2⟩ | ⟨h1, _⟩
    · rw [HDC.out] at h1
      injection h1 with h1
      exact ⟨h1.symm, h2⟩
    · rw [HDC.out] at h1; cases h1
  obtain ⟨rfl, rfl⟩ := hd2
  simp only [pdV, pdA, List.length_cons, List.length_nil, Nat.zero_add, Int.cast_ofNat_Int]
  have HO5 := Lib.hid (Sl.of_own (own_under HO4.out hb5.out (Nat.le_refl _)))
  have HO15 := Lib.hid (Sl.of_own (own_under HO14.out hb5.out (Nat.le_refl _)))
  have HB5 := Lib.hid (HB4.out.trans (hb5.out.mono HB4.out.size))
  obtain ⟨w6, hw6⟩ : ∃ w6, w5.alloc (.cells #[.int .i64 5, .int .i64 1, .int .i64 5, .int .u32 0, .int .u32 2, .slice A5 1 c5, .int .u64 m] 26) = w6 := ⟨_, rfl⟩
  have h6 : Has w6 w5.heap.size 26 #[.int .i64 5, .int .i64 1, .int .i64 5, .int .u32 0, .int .u32 2, .slice A5 1 c5, .int .u64 m] := by rw [← hw6]; exact Has.made _ _ _
  have hb56 : Below w5.heap.size w5 w6 := by rw [← hw6]; exact (Below.refl _ _).alloc (Nat.le_refl _) _
  have HR6 := Lib.hid (HR.out A5 c5 w6 (hs5.out.under hb56))
  have hs1 := HO15.out.under hb56
  have hs4 := HO5.out.under hb56
  have hv1 := conv8 A1 c1 [2, 0, 0, 5, 0, 0, 0, 1] w6 (sl_at8 hs1)
  have hs11 := sl_short9 hs4 (q := 11) (by decide)
  rw [show (u8s EN).take 11 = u8s [11, 0, 0, 5, 0, 0, 0, 2, 0, 1, 9] by rw [← HTK.out]; simp [u8s, List.map_take]] at hs11
  have hv2 := conv8 (some ⟨g4, 0, none⟩) c4 [11, 0, 0, 5, 0, 0, 0, 2, 0, 1, 9] w6 (sl_at8 hs11)
  have hcu : ∀ W : World, (Instr.sliceAt 23 (.slice (some ⟨g4, 0, none⟩) 19 c4) none (some (.int .i64 11)) none).run Try.prog W = .ok (.slice (some ⟨g4, 0, none⟩) 11 c4) W := fun W => by
    have h := cut_to (P := Try.prog) 23 5 Try.underlying23 (by kernel_rfl) size_u8 (some ⟨g4, 0, none⟩) 19 c4 11 (by omega) W
    rw [if_neg (by omega)] at h
    exact h
  simp only [List.length_cons, List.length_nil, Nat.zero_add, Nat.reduceAdd] at hv1 hv2
  have e1 : ((str8 [2, 0, 0, 5, 0, 0, 0, 1]).toList == [2, 0, 0, 5, 0, 0, 0, 1]) = true := by rw [ByteArray.toList_eq]; rfl
  have e2 : ((str8 [11, 0, 0, 5, 0, 0, 0, 2, 0, 1, 9]).toList == [11, 0, 0, 5, 0, 0, 0, 2, 0, 1, 9]) = true := by rw [ByteArray.toList_eq]; rfl
  generalize str8 [2, 0, 0, 5, 0, 0, 0, 1] = S1 at *
  generalize str8 [11, 0, 0, 5, 0, 0, 0, 2, 0, 1, 9] = S2 at *
  obtain ⟨q0, q1, q2, q3, q4, q5, q6⟩ := has_seven h6
  have HB6 := Lib.hid (HB5.out.trans (hb56.mono HB5.out.size))
  have HW6 := Lib.hid hw6
  clear hw6 h6 hb56 hs1 hs4 hs11 hs5 hb5 HO4 HO14 HO15 HO5 HB4 HB5 HD HR hd
  go_upto_region 5 with fail
  rw [HW6.out]
  clear HW6
  go_wp2_with fail
  refine HR6.out.mono ?_
  rintro e w7 ⟨rfl, hb7⟩
  have HB7 := Lib.hid (HB6.out.trans (hb7.mono HB6.out.size))
  go_wp2
  go_ret
  exact ⟨rfl, HB7.out⟩
end Go.Proofs.Ytojbinpicoeppaa
