/-
  linesidelaw10.turned, by contract.
-/
import Derived.Test.YtekcnmimfhiblaaLawAwake10
import Derived.Deep.DeepCutAuto
namespace Go.Proofs.Ytekcnmimfhiblaa
open Go.RowKit
open Go.Great

theorem dec_len10 {xs : List Nat} {p : Pdu} {a : Int} (h : DecAns xs p a) : p.body.length ≤ xs.length := by
  rcases h with ⟨h1, _⟩ | ⟨_, h2, _⟩
  · unfold pdDec at h1
    split at h1
    · injection h1 with h1
      rw [← h1]
      exact parse_body_len xs
    · cases h1
  · rw [h2]; exact Nat.zero_le _
/-- A PDU of which, if it is one, is known that it is not right. -/
def TurnPost (k : Key4) (w : World) (e : Ending) (w' : World) : Prop :=
  ∃ (q : Pdu) (A' : Option Addr) (c' : Nat) (is : Bool), e = .returned (.tuple #[pdV q A' c', .bool is]) ∧ (is = true → q.ok ∧ q.body.length ≤ 2000 ∧ ¬ pdRight k q) ∧ Hid (Sl w' 1 A' q.body.length c' (u8s q.body)) ∧ Hid (∀ a, A' = some a → w.heap.size ≤ a.block) ∧ Hid (Below w.heap.size w w')

set_option maxRecDepth 100000 in
set_option maxHeartbeats 4000000 in
theorem turned10 (k : Key4) (s : Pdu) (A : Option Addr) (c : Nat) (at_ : Int) (y : Nat) (w : World) (hkk : k.ok) (hk : s.ok) (hn : s.body.length ≤ 2000) (hs : Sl w 1 A s.body.length c (u8s s.body)) (hm : pdMay s) (hr : pdRight k s) (ha1 : -9223372036854775808 ≤ at_) (ha2 : at_ ≤ 9223372036854775807) (hy : y < 256) (hy0 : y ≠ 0) :
    Calls Try.prog 28 #[pdV s A c, .int .i64 at_, .int .u8 (y : Nat)] w (TurnPost k w) := by
  obtain ⟨wa, hwa⟩ : ∃ wa, (w.alloc (.cells (pdA s A c) 30)).alloc (.cells #[.int .i64 0, .int .i64 0, .int .i64 0, .int .u32 0, .int .u32 0, .slice none 0 0, .int .u64 0] 30) = wa := ⟨_, rfl⟩
  have hbwa : Below w.heap.size w wa := by rw [← hwa]; exact ((Below.refl _ _).alloc (Nat.le_refl _) _).alloc (by simp) _
  have h0 : Has wa (w.heap.size) 30 (pdA s A c) := by rw [← hwa]; exact ((Has.made _ _ _).beside _)
  have h1 : Has wa (w.heap.size + 1) 30 #[.int .i64 0, .int .i64 0, .int .i64 0, .int .u32 0, .int .u32 0, .slice none 0 0, .int .u64 0] := by rw [← hwa]; exact (has_at (by simp))
  have HWA := Lib.hid hwa; have HBWA := Lib.hid hbwa
  have HB0 : Hid (Has wa (w.heap.size) 30 (pdA s A c) ∧ Has wa (w.heap.size + 1) 30 #[.int .i64 0, .int .i64 0, .int .i64 0, .int .u32 0, .int .u32 0, .slice none 0 0, .int .u64 0] ∧ Below w.heap.size w wa) := Lib.hid ⟨h0, h1, hbwa⟩
  have HE := Lib.hid (opd_encode s A c hk hn wa (Sl.under hs hbwa))
  unfold EncPost at HE
  rw [if_pos hm] at HE
  have hel := enc_len hm
  have he8 := enc_8 hk
  have htn := fun q hqo i hi hq => pd_turned (k := k) (q := q) hkk hk hr hqo i y hi hy0 hq
  have HTN := Lib.hid htn; have HE8 := Lib.hid he8
  clear hwa hbwa h0 h1 hs htn he8 HBWA hk hkk hr hm
  obtain ⟨L, hL⟩ : ∃ L, (pdEnc s).length = L := ⟨_, rfl⟩
  have HL := Lib.hid hL
  rw [hL] at HE hel
  clear hL
  unfold pdV at *
  go_enter Try.func28, Try.ntmps28
  go_upto_region 1 with fail
  rw [HWA.out]
  clear HWA
  obtain ⟨s0, s1, s2⟩ := HB0.out
  have HL0 := Lib.hid s0
  have lwa : w.heap.size + 1 < wa.heap.size := s1.lt
  have HK := Lib.hid (HE.out)
  clear s0 s1 s2
  go_wp2_with (first | (with_reducible refine wpList_load_row (o := ⟨some 13, _, _, _, _, _⟩) rfl 30 _ rfl (w.heap.size) rfl 30 (pdA s A c) (0, 0) _ (HL0.out).raw Try.underlying30 rfl (by kernel_rfl) ?_))
  refine HK.out.mono ?_
  rintro e v1 ⟨A4, c4, rfl, ho4, hb4⟩
  obtain ⟨s0, s1, s2⟩ := HB0.out
  have hbn : Below wa.heap.size wa v1 := hb4.out
  have HB1 : Hid (Has v1 (w.heap.size) 30 (pdA s A c) ∧ Has v1 (w.heap.size + 1) 30 #[.int .i64 0, .int .i64 0, .int .i64 0, .int .u32 0, .int .u32 0, .slice none 0 0, .int .u64 0] ∧ Below w.heap.size w v1) := Lib.hid ⟨s0.under hbn s0.lt, s1.under hbn s1.lt, s2.trans (hbn.mono s2.size)⟩
  clear s0 s1 s2
  clear HK HB0 HL0 HE hb4
  clear hbn
  by_cases hin : 0 ≤ at_ ∧ at_ < (L : Int)
  rotate_left
  · have x3 : at_ < 0 ∨ (0 ≤ at_ ∧ (L : Int) ≤ at_) := by omega
    clear hin ho4 HTN HE8
    rcases x3 with h | ⟨h, h2⟩
    · obtain ⟨s0, s1, s2⟩ := HB1.out
      have HS0 := Lib.hid s1
      have HX0 := Lib.hid (has_setRow7 s1 #[.int .i64 0, .int .i64 0, .int .i64 0, .int .u32 0, .int .u32 0, .slice none 0 0, .int .u64 0])
      have HXB := Lib.hid (below_row (g := w.heap.size + 1) s2 (by omega) #[.int .i64 0, .int .i64 0, .int .i64 0, .int .u32 0, .int .u32 0, .slice none 0 0, .int .u64 0])
      clear s0 s1 s2
      go_wp2_with (with_reducible refine wpList_store_rowTo (o := ⟨none, _, _, _, _, _⟩) rfl 30 _ _ rfl rfl (w.heap.size + 1) #[.int .i64 0, .int .i64 0, .int .i64 0, .int .u32 0, .int .u32 0, .slice none 0 0, .int .u64 0] rfl rfl 30 _ (HS0.out).raw (by kernel_rfl) (by kernel_rfl) (by kernel_rfl) ?_)
      refine bodyPost_ret (results_row_tmp9 rfl _ _ (w.heap.size + 1) 30 _ _ rfl HX0.out Try.underlying30 rfl (by kernel_rfl)) rfl ?_
      exact ⟨pdZero, none, 0, false, rfl, fun h => (by cases h), Lib.hid (sl_nil _ _), Lib.hid (fun a ha => by cases ha), HXB⟩
    · have x4 : ¬ at_ < 0 := by omega
      obtain ⟨s0, s1, s2⟩ := HB1.out
      have HS0 := Lib.hid s1
      have HX0 := Lib.hid (has_setRow7 s1 #[.int .i64 0, .int .i64 0, .int .i64 0, .int .u32 0, .int .u32 0, .slice none 0 0, .int .u64 0])
      have HXB := Lib.hid (below_row (g := w.heap.size + 1) s2 (by omega) #[.int .i64 0, .int .i64 0, .int .i64 0, .int .u32 0, .int .u32 0, .slice none 0 0, .int .u64 0])
      clear s0 s1 s2
      go_wp2_with (with_reducible refine wpList_store_rowTo (o := ⟨none, _, _, _, _, _⟩) rfl 30 _ _ rfl rfl (w.heap.size + 1) #[.int .i64 0, .int .i64 0, .int .i64 0, .int .u32 0, .int .u32 0, .slice none 0 0, .int .u64 0] rfl rfl 30 _ (HS0.out).raw (by kernel_rfl) (by kernel_rfl) (by kernel_rfl) ?_)
      refine bodyPost_ret (results_row_tmp9 rfl _ _ (w.heap.size + 1) 30 _ _ rfl HX0.out Try.underlying30 rfl (by kernel_rfl)) rfl ?_
      exact ⟨pdZero, none, 0, false, rfl, fun h => (by cases h), Lib.hid (sl_nil _ _), Lib.hid (fun a ha => by cases ha), HXB⟩
  obtain ⟨h1, h2⟩ := hin
  obtain ⟨i, rfl⟩ : ∃ i : Nat, at_ = i := ⟨at_.toNat, by omega⟩
  have x3 : ¬ (i : Int) < 0 := by omega
  have x4 : ¬ (L : Int) ≤ (i : Int) := by omega
  have x6 : (i : Int) < (L : Int) := by omega
  obtain ⟨g, rfl, hg⟩ := own_first ho4.out (by omega)
  have hv := getD_lt HE8.out i
  have HO := ho4
  have hr0 : v1.cell? ⟨g, i, none⟩ = some (.int .u8 ((pdEnc s).getD i 0 : Nat)) := by
    rw [HO.out.cellAt _ (by omega), u8s_at _ (by rw [HL.out]; omega)]
  have hr1 : v1.frozen? ⟨g, i, none⟩ = false := HO.out.frozenAt _
  have hx8 := xor8i hv (show y < 256 by omega)
  have hst := HO.out.stored i (.int .u8 (((pdEnc s).getD i 0 ^^^ y : Nat) : Nat))
  rw [← u8s_set] at hst
  have hset8 : bytes8 ((pdEnc s).set i ((pdEnc s).getD i 0 ^^^ y)) := by
    intro x hx
    rcases List.mem_or_eq_of_mem_set hx with h | h
    · exact HE8.out x h
    · rw [h]; exact xor8 hv (by omega)
  have hls : ((pdEnc s).set i ((pdEnc s).getD i 0 ^^^ y)).length = L := by rw [List.length_set]; exact HL.out
  have hgn : ∀ q, q.ok → pdDec ((pdEnc s).set i ((pdEnc s).getD i 0 ^^^ y)) = some q → ¬ pdRight k q := fun q hqo hq => HTN.out q hqo i (by rw [HL.out]; omega) hq
  obtain ⟨s0, s1, s2⟩ := HB1.out
  obtain ⟨w6, hw6⟩ : ∃ w6, v1.setCell ⟨g, i, none⟩ (.int .u8 ((pdEnc s).getD i 0 ^^^ y : Nat)) = w6 := ⟨_, rfl⟩
  have t0 : Has w6 (w.heap.size) 30 (pdA s A c) := by rw [← hw6]; exact s0.apart (p := ⟨g, i, none⟩) (by show _ ≠ g; omega) _
  have t1 : Has w6 (w.heap.size + 1) 30 #[.int .i64 0, .int .i64 0, .int .i64 0, .int .u32 0, .int .u32 0, .slice none 0 0, .int .u64 0] := by rw [← hw6]; exact s1.apart (p := ⟨g, i, none⟩) (by show _ ≠ g; omega) _
  have t2 : Below w.heap.size w w6 := by rw [← hw6]; exact s2.setCell (p := ⟨g, i, none⟩) (by show w.heap.size ≤ g; omega) _
  have HB2 : Hid (Has w6 (w.heap.size) 30 (pdA s A c) ∧ Has w6 (w.heap.size + 1) 30 #[.int .i64 0, .int .i64 0, .int .i64 0, .int .u32 0, .int .u32 0, .slice none 0 0, .int .u64 0] ∧ Below w.heap.size w w6) := Lib.hid ⟨t0, t1, t2⟩
  rw [hw6] at hst
  obtain ⟨X, hX⟩ : ∃ X, (pdEnc s).set i ((pdEnc s).getD i 0 ^^^ y) = X := ⟨_, rfl⟩
  rw [hX] at hst hset8 hls hgn
  rw [← hls] at hst
  have HD6 := Lib.hid (opd_decode (some ⟨g, 0, none⟩) c4 X w6 (at8_own hst.1) hset8 (by omega) (own_cap9 hst.1))
  rw [hls] at HD6
  have HX8 := Lib.hid hset8; have HXL := Lib.hid hls; have HGN := Lib.hid hgn; have HW6 := Lib.hid hw6
  have hgw : w.heap.size + 1 < g := by omega
  obtain ⟨v, hv2⟩ : ∃ v, (pdEnc s).getD i 0 = v := ⟨_, rfl⟩
  rw [hv2] at hr0 hx8 HW6
  obtain ⟨z, hz⟩ : ∃ z, v ^^^ y = z := ⟨_, rfl⟩
  rw [hz] at hx8 HW6
  clear s0 s1 s2 t0 t1 t2 HB1 hst hset8 hls hgn hw6 hX hv hv2 hz h1 h2 HO ho4 HTN HE8
  go_upto_region 5 with fail
  rw [HW6.out]
  clear hr0 hr1 hx8 HW6
  go_wp2_with fail
  refine HD6.out.mono ?_
  rintro e w7 ⟨q, A7, c7, err, rfl, hd7, hs7, ha7, hb7⟩
  clear HD6
  obtain ⟨s0, s1, s2⟩ := HB2.out
  have hb := hb7.out
  have u1 : Has w7 (w.heap.size + 1) 30 #[.int .i64 0, .int .i64 0, .int .i64 0, .int .u32 0, .int .u32 0, .slice none 0 0, .int .u64 0] := s1.under hb s1.lt
  have u2 : Below w.heap.size w w7 := s2.trans (hb.mono s2.size)
  have hlt : w.heap.size + 1 < w7.heap.size := u1.lt
  unfold pdV
  have HS0 := Lib.hid (Has.made w7 30 #[.int .i64 0, .int .i64 0, .int .i64 0, .int .u32 0, .int .u32 0, .slice none 0 0, .int .u64 0])
  obtain ⟨w8, hw8⟩ : ∃ w8, (w7.alloc (.cells #[.int .i64 0, .int .i64 0, .int .i64 0, .int .u32 0, .int .u32 0, .slice none 0 0, .int .u64 0] 30)).setRow w7.heap.size (pdA q A7 c7) = w8 := ⟨_, rfl⟩
  have HL0 : Hid (Has w8 (w7.heap.size) 30 (pdA q A7 c7)) := Lib.hid (by rw [← hw8]; exact has_setRow7 (Has.made w7 30 #[.int .i64 0, .int .i64 0, .int .i64 0, .int .u32 0, .int .u32 0, .slice none 0 0, .int .u64 0]) _)
  have HS1 : Hid (Has w8 (w.heap.size + 1) 30 #[.int .i64 0, .int .i64 0, .int .i64 0, .int .u32 0, .int .u32 0, .slice none 0 0, .int .u64 0]) := Lib.hid (by rw [← hw8]; exact has_setRow_other7 (u1.beside _) (by omega) _)
  have hb8 : Below w7.heap.size w7 w8 := by rw [← hw8]; exact below_row (g := w7.heap.size) ((Below.refl _ _).alloc (Nat.le_refl _) _) (by omega) _
  have u8 := u2.trans (hb8.mono u2.size)
  have hs8 := hs7.out.under hb8
  have HRES := Lib.hid (has_setRow7 HS1.out (pdA q A7 c7))
  have HBF := Lib.hid (below_row (g := w.heap.size + 1) u8 (by omega) (pdA q A7 c7))
  have HSF := Lib.hid (sl_row9 hs8 (g := w.heap.size + 1) (fun a ha => by
    rcases ha7.out a ha with h | ⟨a0, h, h2⟩
    · have := s1.lt; omega
    · cases h; have h3 : a.block = g := h2; omega) (pdA q A7 c7))
  have HAF : Hid (∀ a, A7 = some a → w.heap.size ≤ a.block) := Lib.hid (fun a ha => by
    rcases ha7.out a ha with h | ⟨a0, h, h2⟩
    · have := s1.lt; omega
    · cases h; have h3 : a.block = g := h2; omega)
  have HW8 := Lib.hid hw8
  have hal : ∀ is, (is = decide (err = 0)) → is = true → q.ok ∧ q.body.length ≤ 2000 ∧ ¬ pdRight k q := fun is h1 h2 => by
    have h3 : err = 0 := by rw [h2] at h1; exact of_decide_eq_true h1.symm
    rcases hd7 with ⟨h, _⟩ | ⟨_, _, h⟩
    · have hqo := dec_ok HX8.out h
      refine ⟨hqo, ?_, HGN.out q hqo h⟩
      have h5 := dec_len10 (xs := X) (p := q) (a := 0) (.inl ⟨h, rfl⟩)
      have := HXL.out
      omega
    · omega
  have HAL := Lib.hid hal
  have herr : err = 0 ∨ err = 8 := by
    rcases hd7 with ⟨_, h⟩ | ⟨_, _, h⟩
    · exact .inl h
    · exact .inr h
  clear hal hw8 hs8 u1 u2 u8 hb8 hb s0 s1 s2 hs7 ha7 hb7 hd7 HX8 HXL HGN HB2
  go_upto_region 6 with (first | (with_reducible refine wpList_store_rowTo (o := ⟨none, _, _, _, _, _⟩) rfl 30 _ _ rfl rfl (w7.heap.size) (pdA q A7 c7) rfl rfl 30 _ (HS0.out).raw (by kernel_rfl) (by kernel_rfl) (by kernel_rfl) ?_))
  rw [HW8.out]
  clear HW8 HS0
  rcases herr with rfl | rfl
  · go_wp2_with (first | (with_reducible refine wpList_load_row (o := ⟨some 44, _, _, _, _, _⟩) rfl 30 _ rfl (w7.heap.size) rfl 30 (pdA q A7 c7) (0, 0) _ (HL0.out).raw Try.underlying30 rfl (by kernel_rfl) ?_) | (with_reducible refine wpList_store_rowTo (o := ⟨none, _, _, _, _, _⟩) rfl 30 _ _ rfl rfl (w.heap.size + 1) (pdA q A7 c7) rfl rfl 30 _ (HS1.out).raw (by kernel_rfl) (by kernel_rfl) (by kernel_rfl) ?_))
    refine bodyPost_ret (results_row_tmp9 rfl _ _ (w.heap.size + 1) 30 _ _ rfl HRES.out Try.underlying30 rfl (by kernel_rfl)) rfl ?_
    exact ⟨q, A7, c7, true, rfl, HAL.out true (by decide), HSF, HAF, HBF⟩
  · go_wp2_with (first | (with_reducible refine wpList_load_row (o := ⟨some 44, _, _, _, _, _⟩) rfl 30 _ rfl (w7.heap.size) rfl 30 (pdA q A7 c7) (0, 0) _ (HL0.out).raw Try.underlying30 rfl (by kernel_rfl) ?_) | (with_reducible refine wpList_store_rowTo (o := ⟨none, _, _, _, _, _⟩) rfl 30 _ _ rfl rfl (w.heap.size + 1) (pdA q A7 c7) rfl rfl 30 _ (HS1.out).raw (by kernel_rfl) (by kernel_rfl) (by kernel_rfl) ?_))
    refine bodyPost_ret (results_row_tmp9 rfl _ _ (w.heap.size + 1) 30 _ _ rfl HRES.out Try.underlying30 rfl (by kernel_rfl)) rfl ?_
    exact ⟨q, A7, c7, false, rfl, HAL.out false (by decide), HSF, HAF, HBF⟩
end Go.Proofs.Ytekcnmimfhiblaa
