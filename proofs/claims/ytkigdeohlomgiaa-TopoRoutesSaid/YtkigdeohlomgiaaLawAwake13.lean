/-
  linesidelaw13: small, awake.
-/
import Derived.Test.YtkigdeohlomgiaaTpOwn

namespace Go.Proofs.Ytkigdeohlomgiaa

open Go.RowKit

open Go.Great

def sm13 : Tp3 := ⟨[100, 200, 300], [⟨(0, 1), (1, 0)⟩, ⟨(0, 1), (2, 1)⟩], [], []⟩
theorem sl_has13 {W : World} {g : Nat} {t : TypeId} {n s : Nat} {vs : List Value} (h : Has W g t vs.toArray) (hn : vs.length = n * s) : Sl W s (some ⟨g, 0, none⟩) n n vs := by
  refine ⟨hn, (fun e => by cases e), fun ad ha j u hu => ?_⟩
  injection ha with ha
  subst ha
  rw [WideShapes.add_plain, h.cell, Nat.zero_add]
  simpa using hu
set_option maxRecDepth 100000 in
set_option maxHeartbeats 8000000 in
theorem small_any (w : World) : Calls Try.prog 19 #[] w fun e w' => ∃ a : TpA, e = .returned (.agg (tpC sm13 a)) ∧ TopR w' sm13 a ∧ sm13.joints.length ≤ a.cj ∧ Below w.heap.size w w' := by
  obtain ⟨wa, hwa⟩ : ∃ wa, ((w.alloc (.cells (tpC sm13 ⟨some ⟨w.heap.size + 1, 0, none⟩, 3, some ⟨w.heap.size + 1 + 1, 0, none⟩, 2, none, 0, none, 0⟩) 27)).alloc (.cells #[.int .i64 100, .int .i64 200, .int .i64 300] 3)).alloc (.cells #[.int .i64 0, .int .i64 1, .int .i64 1, .int .i64 0, .int .i64 0, .int .i64 1, .int .i64 2, .int .i64 1] 62) = wa := ⟨_, rfl⟩
  have hbwa : Below w.heap.size w wa := by rw [← hwa]; exact (((Below.refl _ _).alloc (Nat.le_refl _) _).alloc (by simp) _).alloc (by simp; omega) _
  have h0 : Has wa (w.heap.size) 27 (tpC sm13 ⟨some ⟨w.heap.size + 1, 0, none⟩, 3, some ⟨w.heap.size + 1 + 1, 0, none⟩, 2, none, 0, none, 0⟩) := by rw [← hwa]; exact (((Has.made _ _ _).beside _).beside _)
  have h1 : Has wa (w.heap.size + 1) 3 #[.int .i64 100, .int .i64 200, .int .i64 300] := by rw [← hwa]; exact ((has_at11 (by simp)).beside _)
  have h2 : Has wa (w.heap.size + 1 + 1) 62 #[.int .i64 0, .int .i64 1, .int .i64 1, .int .i64 0, .int .i64 0, .int .i64 1, .int .i64 2, .int .i64 1] := by rw [← hwa]; exact (has_at11 (by simp))
  have HWA := Lib.hid hwa; have HBWA := Lib.hid hbwa
  have H0 := Lib.hid h0
  have H1 := Lib.hid h1
  have H2 := Lib.hid h2
  clear h0 h1 h2 hwa hbwa
  unfold tpC sm13 at HWA H0
  dsimp only [List.length_cons, List.length_nil] at HWA H0
  go_enter Try.func19, Try.ntmps19
  go_upto_region 1 with fail
  go_wp2_with fail
  have hw : _ = wa := HWA.out
  first | rw [hw] | (simp only [Nat.zero_add] at hw; rw [hw])
  refine bodyPost_ret (results_cell_row rfl _ _ (w.heap.size) 27 _ _ _ rfl H0.out Try.underlying27 rfl (by kernel_rfl)) rfl ?_
  exact ⟨⟨some ⟨w.heap.size + 1, 0, none⟩, 3, some ⟨w.heap.size + 1 + 1, 0, none⟩, 2, none, 0, none, 0⟩, rfl, ⟨⟨rfl, sl_has13 H1.out rfl⟩, ⟨rfl, sl_has13 H2.out rfl⟩, SlO.nil _ _ _, ⟨[], rfl, SlO.nil _ _ _, fun p h => by cases h⟩⟩, Nat.le_refl 2, HBWA.out⟩

set_option maxRecDepth 100000 in
set_option maxHeartbeats 8000000 in
theorem awake13_any (w : World) : Calls Try.prog 7 #[] w fun e w' => e = .returned (.bool true) ∧ Below w.heap.size w w' := by
  have hlt : lightT sm13 = true := by kernel_rfl
  have hok : edgesOk sm13 = true := by kernel_rfl
  have hA := fun a W h => otp_after sm13 a ⟨0, false⟩ W h hlt
  simp only [show afterL sm13 ⟨0, false⟩ = [⟨1, false⟩, ⟨2, true⟩] from by kernel_rfl] at hA
  have hA2 := fun a W h => otp_after sm13 a ⟨1, true⟩ W h hlt
  simp only [show afterL sm13 ⟨1, true⟩ = [⟨0, true⟩] from by kernel_rfl] at hA2
  have hL := fun a A c W h hp => otp_length sm13 a [⟨0, false⟩, ⟨1, false⟩] A 2 c W h hp (by omega) hlt hok
  simp only [show lenN sm13 [⟨0, false⟩, ⟨1, false⟩] = 300 from by kernel_rfl, show lenE sm13 [⟨0, false⟩, ⟨1, false⟩] = 0 from by kernel_rfl] at hL
  have hC := fun a W h hc => otp_check sm13 a W h hlt hc
  simp only [show checkE sm13 = 0 from by kernel_rfl] at hC
  have HA := Lib.hid hA; have HA2 := Lib.hid hA2; have HL := Lib.hid hL; have HC := Lib.hid hC
  clear hA hA2 hL hC hlt hok
  go_enter Try.func7, Try.ntmps7
  go_wp2_with fail
  refine (small_any w).mono ?_
  rintro e v1 ⟨a1, rfl, ht1, _, hb1⟩
  have HB1 := Lib.hid hb1
  have HK := Lib.hid (HA.out a1 v1 ht1)
  clear hb1 ht1
  go_wp2_with fail
  refine HK.out.mono ?_
  rintro e v2 ⟨A2, c2, rfl, hs2, hb2⟩
  have HB2 := Lib.hid (HB1.out.trans (hb2.mono HB1.out.size))
  have HS2 := Lib.hid (fun W (hW : Below v2.heap.size v2 W) => hs2.under hW)
  clear hb2 hs2 HK HB1
  go_wp2_with fail
  refine (small_any v2).mono ?_
  rintro e v3 ⟨a3, rfl, ht3, _, hb3⟩
  have HB3 := Lib.hid hb3
  have HK := Lib.hid (HA2.out a3 v3 ht3)
  clear hb3 ht3
  go_wp2_with fail
  refine HK.out.mono ?_
  rintro e v4 ⟨A4, c4, rfl, hs4, hb4⟩
  have HB4 := Lib.hid (HB3.out.trans (hb4.mono HB3.out.size))
  have HS4 := Lib.hid (fun W (hW : Below v4.heap.size v4 W) => hs4.under hW)
  clear hb4 hs4 HK HB3
  go_wp2_with fail
  refine (small_any v4).mono ?_
  rintro e v5 ⟨a5, rfl, ht5, _, hb5⟩
  have HB5 := Lib.hid hb5
  have HT5 := Lib.hid ht5
  clear hb5 ht5
  obtain ⟨v6, hv6⟩ : ∃ v6, v5.alloc (.cells #[.int .i64 0, .bool false, .int .i64 1, .bool false] 44) = v6 := ⟨_, rfl⟩
  have hb6 : Below v5.heap.size v5 v6 := by rw [← hv6]; exact (Below.refl _ _).alloc (Nat.le_refl _) _
  have hx6 : Has v6 v5.heap.size 44 #[.int .i64 0, .bool false, .int .i64 1, .bool false] := by rw [← hv6]; exact Has.made _ _ _
  have hs6 : SlO stC 2 v6 (some ⟨v5.heap.size, 0, none⟩) 2 2 [⟨0, false⟩, ⟨1, false⟩] := ⟨rfl, sl_has13 hx6 rfl⟩
  have HK := Lib.hid (HL.out a5 (some ⟨v5.heap.size, 0, none⟩) 2 v6 (HT5.out.under hb6) hs6)
  have HB6 := Lib.hid (HB5.out.trans (hb6.mono HB5.out.size))
  have HV6 := Lib.hid hv6
  clear hv6 hb6 hx6 hs6 HB5
  go_wp2_with fail
  rw [HV6.out]
  refine HK.out.mono ?_
  rintro e v7 ⟨rfl, hb7⟩
  have HB7 := Lib.hid (HB6.out.trans (hb7.mono HB6.out.size))
  clear hb7 HK HV6 HT5 HB6
  go_wp2_with fail
  refine (small_any v7).mono ?_
  rintro e v8 ⟨a8, rfl, ht8, hc8, hb8⟩
  have HB8 := Lib.hid (HB7.out.trans (hb8.mono HB7.out.size))
  have HK := Lib.hid (HC.out a8 v8 ht8 hc8)
  clear hb8 ht8 hc8 HB7
  go_wp2_with fail
  refine HK.out.mono ?_
  rintro e v9 ⟨rfl, hb9⟩
  have HB9 := Lib.hid (HB8.out.trans (hb9.mono HB8.out.size))
  clear hb9 HK HB8
  have HB49 := Lib.hid (HB4.out.trans (HB9.out.mono HB4.out.size))
  obtain ⟨p2, o2, e2_, f0, f1⟩ := (HS2.out v9 HB49.out).step (j := 0) (x := ⟨1, false⟩) rfl
  obtain ⟨p2', o2', e2'_, f2, f3⟩ := (HS2.out v9 HB49.out).step (j := 1) (x := ⟨2, true⟩) rfl
  obtain rfl := e2_
  injection e2'_ with e2'_
  injection e2'_ with x1_ x2_ _
  subst x1_ x2_
  obtain ⟨p4, o4, e4_, g0, g1⟩ := (HS4.out v9 HB9.out).step (j := 0) (x := ⟨0, true⟩) rfl
  obtain rfl := e4_
  simp only [Nat.zero_mul, Nat.one_mul, Nat.add_zero] at f0 f1 f2 f3 g0 g1
  have q1 := eq_st13 ⟨1, false⟩ ⟨1, false⟩
  have q2 := eq_st13 ⟨2, true⟩ ⟨2, true⟩
  have q3 := eq_st13 ⟨0, true⟩ ⟨0, true⟩
  rw [show eqS ⟨1, false⟩ ⟨1, false⟩ = true from by kernel_rfl] at q1
  rw [show eqS ⟨2, true⟩ ⟨2, true⟩ = true from by kernel_rfl] at q2
  rw [show eqS ⟨0, true⟩ ⟨0, true⟩ = true from by kernel_rfl] at q3
  unfold stA13 at q1 q2 q3
  go_wp2_with fail
  go_ret
  exact ⟨by first | rfl | simp, HB2.out.trans (HB49.out.mono HB2.out.size)⟩
end Go.Proofs.Ytkigdeohlomgiaa
