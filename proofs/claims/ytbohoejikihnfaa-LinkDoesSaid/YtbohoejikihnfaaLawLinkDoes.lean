/-
  linesidelaw12.LinkDoes, walked.
-/
import Derived.Test.YtbohoejikihnfaaLawAwake12

import Derived.Test.YtbohoejikihnfaaLkMore

import Derived.BigQuiet

namespace Go.Proofs.Ytbohoejikihnfaa

open Go.RowKit

open Go.Great

set_option maxRecDepth 100000 in
set_option maxHeartbeats 32000000 in
theorem linkDoes_walk (l : L0) (A : Option Addr) (c : Nat) (kd t now : Int) (B : Option Addr) (d : Nat) (xs : List Nat) (w : World) (hw : WsR (fun b => b < w.heap.size) w A l.ws.length c l.ws) (hx : BodyR (fun b => b < w.heap.size) w (.slice B xs.length d) xs) :
    Calls Try.prog 3 #[.agg (lkC l A c), .agg #[.int .i64 kd, .int .i64 t, .int .i64 now, .slice B xs.length d]] w fun e w' => e = .returned (.bool true) ∧ Below w.heap.size w w' := by
  obtain ⟨wa, hwa⟩ : ∃ wa, (w.alloc (.cells (lkC l A c) 24)).alloc (.cells #[.int .i64 kd, .int .i64 t, .int .i64 now, .slice B xs.length d] 27) = wa := ⟨_, rfl⟩
  have hbwa : Below w.heap.size w wa := by rw [← hwa]; exact ((Below.refl _ _).alloc (Nat.le_refl _) _).alloc (by simp) _
  have h0 : Has wa (w.heap.size) 24 (lkC l A c) := by rw [← hwa]; exact ((Has.made _ _ _).beside _)
  have h1 : Has wa (w.heap.size + 1) 27 #[.int .i64 kd, .int .i64 t, .int .i64 now, .slice B xs.length d] := by rw [← hwa]; exact (has_at11 (by simp))
  have HWA := Lib.hid hwa; have HBWA := Lib.hid hbwa
  have HB0 : Hid (Has wa (w.heap.size) 24 (lkC l A c) ∧ Has wa (w.heap.size + 1) 27 #[.int .i64 kd, .int .i64 t, .int .i64 now, .slice B xs.length d] ∧ WsR (fun b => b < w.heap.size) wa A l.ws.length c l.ws ∧ BodyR (fun b => b < w.heap.size) wa (.slice B xs.length d) xs ∧ Below w.heap.size w wa) := Lib.hid ⟨h0, h1, hw.under hbwa, hx.under hbwa, hbwa⟩
  have hwz : w.heap.size + 2 ≤ wa.heap.size := by rw [← hwa]; simp
  have HAW := Lib.hid (awake12_any wa)
  clear hwa hbwa h0 h1 hw hx HBWA
  go_enter Try.func3, Try.ntmps3
  go_upto_region 1 with fail
  rw [HWA.out]
  clear HWA
  obtain ⟨s0, s1, s2, s3, s4⟩ := HB0.out
  have HK := Lib.hid (HAW.out)
  clear s0 s1 s2 s3 s4
  go_wp2_with fail
  refine HK.out.mono ?_
  rintro e v1 ⟨rfl, hb1⟩
  obtain ⟨s0, s1, s2, s3, s4⟩ := HB0.out
  have hbn : Below wa.heap.size wa v1 := hb1
  have HB1 : Hid (Has v1 (w.heap.size) 24 (lkC l A c) ∧ Has v1 (w.heap.size + 1) 27 #[.int .i64 kd, .int .i64 t, .int .i64 now, .slice B xs.length d] ∧ WsR (fun b => b < w.heap.size) v1 A l.ws.length c l.ws ∧ BodyR (fun b => b < w.heap.size) v1 (.slice B xs.length d) xs ∧ Below w.heap.size w v1) := Lib.hid ⟨s0.under hbn s0.lt, s1.under hbn s1.lt, s2.under hbn, s3.under hbn, s4.trans (hbn.mono s4.size)⟩
  have hz1_ := hbn.size
  clear s0 s1 s2 s3 s4
  clear HK HB0 HAW hb1
  clear hbn
  obtain ⟨s0, s1, s2, s3, s4⟩ := HB1.out
  have HL0 := Lib.hid s0
  have HK := Lib.hid (llight_any l A c v1 s2)
  clear s0 s1 s2 s3 s4
  go_wp2_with (first | (with_reducible refine wpList_load_row (o := ⟨some 35, _, _, _, _, _⟩) rfl 24 _ rfl (w.heap.size) rfl 24 (lkC l A c) (0, 0) _ (HL0.out).raw11 Try.underlying24 rfl (by kernel_rfl) ?_))
  refine HK.out.mono ?_
  rintro e v2 ⟨rfl, hb1⟩
  obtain ⟨s0, s1, s2, s3, s4⟩ := HB1.out
  have hbn : Below v1.heap.size v1 v2 := hb1
  have HB2 : Hid (Has v2 (w.heap.size) 24 (lkC l A c) ∧ Has v2 (w.heap.size + 1) 27 #[.int .i64 kd, .int .i64 t, .int .i64 now, .slice B xs.length d] ∧ WsR (fun b => b < w.heap.size) v2 A l.ws.length c l.ws ∧ BodyR (fun b => b < w.heap.size) v2 (.slice B xs.length d) xs ∧ Below w.heap.size w v2) := Lib.hid ⟨s0.under hbn s0.lt, s1.under hbn s1.lt, s2.under hbn, s3.under hbn, s4.trans (hbn.mono s4.size)⟩
  have hz2_ := hbn.size
  clear s0 s1 s2 s3 s4
  clear HK HB1 HL0 hb1
  clear hbn
  obtain ⟨s0, s1, s2, s3, s4⟩ := HB2.out
  have c3 : v2.cell? ⟨w.heap.size + 1, 3, none⟩ = some (.slice B xs.length d) := s1.cell 3
  clear s0 s1 s2 s3 s4
  by_cases hL : lightL l = true
  rotate_left
  · rw [Bool.not_eq_true] at hL
    rw [hL]
    have HBF := Lib.hid HB2.out.2.2.2.2
    clear HB2 hL
    go_wp2
    go_ret
    exact ⟨rfl, HBF.out⟩
  rw [hL]
  by_cases hxs : (2000 : Int) < (xs.length : Int)
  · have HBF := Lib.hid HB2.out.2.2.2.2
    clear HB2 hL
    go_wp2
    go_ret
    exact ⟨rfl, HBF.out⟩
  have hl50 := light_len hL
  have hxn : xs.length ≤ 2000 := by omega
  have n1 := sent_len hl50 t now xs
  have n2 := acked_len hl50 t
  have n3 := heard_len hl50 now
  obtain ⟨n4, n5⟩ := tick_len hl50 now
  have s1_ := fun (P : Nat → Prop) W A c hw hx => olk_sent (P := P) l A c t now B d xs W hw hx hL hxn
  have s2_ := fun (P Q : Nat → Prop) W A c (hw : WsR P W A l.ws.length c l.ws) hx => rsent_any (P := P) l A c t now B d xs W hw hx
  have a1_ := fun (P : Nat → Prop) W A c hw => olk_acked (P := P) l A c t W hw hL
  have a2_ := fun (P : Nat → Prop) W A c hw => racked_any (P := P) l A c t W hw
  have e1_ := fun (P : Nat → Prop) W A c hw => olk_heard (P := P) l A c now W hw hL
  have e2_ := fun (P : Nat → Prop) W A c hw => rheard_any (P := P) l A c now W hw
  have t1_ := fun (P : Nat → Prop) W A c hw => olk_tick (P := P) l A c now W hw hL
  have t2_ := fun (P : Nat → Prop) W A c hw => rtick_any (P := P) l A c now W hw
  have m1_ := fun (P : Nat → Prop) W A c hw => olk_may (P := P) l A c W hw hL
  have m2_ := fun (P : Nat → Prop) W A c hw => rmay12_any (P := P) l A c W hw
  unfold TickPost at t1_ t2_
  generalize sentL l t now xs = r1 at *
  generalize sentE l t now xs = x1 at *
  generalize ackedL l t = r2 at *
  generalize ackedE l t = x2 at *
  generalize heardL l now = r3 at *
  generalize heardE l now = x3 at *
  generalize tickL l now = r4 at *
  generalize tickA l now = ra at *
  generalize tickLost l now = rl at *
  generalize tickE l now = x4 at *
  generalize mayL l = bm at *
  have S1 := Lib.hid s1_; have S2 := Lib.hid s2_; have A1 := Lib.hid a1_; have A2_ := Lib.hid a2_; have E1 := Lib.hid e1_; have E2 := Lib.hid e2_; have T1 := Lib.hid t1_; have T2 := Lib.hid t2_; have M1 := Lib.hid m1_; have M2 := Lib.hid m2_
  clear s1_ s2_ a1_ a2_ e1_ e2_ t1_ t2_ m1_ m2_ hL
  go_upto_region 5 with fail
  clear c3 hxs
  obtain ⟨s0, s1, s2, s3, s4⟩ := HB2.out
  have lt2_2 : w.heap.size + 1 < v2.heap.size := s1.lt
  have le2_2 : w.heap.size ≤ v2.heap.size := s4.size
  have HS0 : Hid (Has (v2.alloc (.cells #[.int .i64 0, .int .i64 0, .int .i64 0, .int .i64 0, .slice none 0 0] 24)) (v2.heap.size) 24 #[.int .i64 0, .int .i64 0, .int .i64 0, .int .i64 0, .slice none 0 0]) := Lib.hid (Has.made v2 24 #[.int .i64 0, .int .i64 0, .int .i64 0, .int .i64 0, .slice none 0 0])
  obtain ⟨v3, hv3⟩ : ∃ v3, (v2.alloc (.cells #[.int .i64 0, .int .i64 0, .int .i64 0, .int .i64 0, .slice none 0 0] 24)).setRow (v2.heap.size) (lkC l A c) = v3 := ⟨_, rfl⟩
  have hy3_ : v2.heap.size + 1 ≤ v3.heap.size := by rw [← hv3]; simp
  have hbw : Below v2.heap.size v2 v3 := by rw [← hv3]; exact (below_row (g := v2.heap.size) (Below.alloc (Below.refl v2.heap.size v2) (Nat.le_refl _) (.cells #[.int .i64 0, .int .i64 0, .int .i64 0, .int .i64 0, .slice none 0 0] 24)) (by omega) (lkC l A c))
  have HB3 : Hid (Has v3 (w.heap.size) 24 (lkC l A c) ∧ Has v3 (w.heap.size + 1) 27 #[.int .i64 kd, .int .i64 t, .int .i64 now, .slice B xs.length d] ∧ WsR (fun b => b < w.heap.size) v3 A l.ws.length c l.ws ∧ BodyR (fun b => b < w.heap.size) v3 (.slice B xs.length d) xs ∧ Has v3 (v2.heap.size) 24 (lkC l A c) ∧ Below w.heap.size w v3) := Lib.hid ⟨s0.under hbw s0.lt, s1.under hbw s1.lt, s2.under hbw, s3.under hbw, (by rw [← hv3]; exact (has_row11 (Has.made v2 24 #[.int .i64 0, .int .i64 0, .int .i64 0, .int .i64 0, .slice none 0 0]) (lkC l A c))), s4.trans (hbw.mono s4.size)⟩
  clear hbw
  have HWv3 := Lib.hid hv3
  have HL0 := Lib.hid s0
  clear s0 s1 s2 s3 s4
  clear hv3 HB2
  go_upto_region 6 with (first | (with_reducible refine wpList_load_row (o := ⟨some 50, _, _, _, _, _⟩) rfl 24 _ rfl (w.heap.size) rfl 24 (lkC l A c) (0, 0) _ (HL0.out).raw11 Try.underlying24 rfl (by kernel_rfl) ?_) | (with_reducible refine wpList_store_rowTo (o := ⟨none, _, _, _, _, _⟩) rfl 24 _ _ rfl rfl (v2.heap.size) (lkC l A c) rfl rfl 24 _ (HS0.out).raw11 (by kernel_rfl) (by kernel_rfl) (by kernel_rfl) ?_))
  rw [HWv3.out]
  clear HWv3 HS0 HL0
  obtain ⟨s0, s1, s2, s3, s4, s5⟩ := HB3.out
  have k4_ := s0.cell 4
  have c4 : v3.cell? ⟨w.heap.size, 4, none⟩ = some (.slice A l.ws.length c) := k4_
  have k5_ := s4.cell 4
  have z4 := s4.thaw 4
  obtain ⟨l2, hl2, hk2, hsl, hp2⟩ := s2
  have HSL := Lib.hid hsl.1; have HO := Lib.hid (World.ownsRow_nil v3 v3.heap.size 48 4)
  have H1C : Hid (∀ u ∈ cellsW l2, u.oneCell' = true) := Lib.hid (cellsW_one (fun p hp => by obtain ⟨_, _, e, _⟩ := hp2 p hp; rw [e]; rfl))
  have HBD : Hid (0 + l.ws.length ≤ maxLen ∧ (0 + l.ws.length) * 48 ≤ 140737488355328 ∧ v3.heap.size ≤ v3.heap.size) := Lib.hid ⟨by unfold maxLen; omega, by omega, Nat.le_refl _⟩
  have HL2 := Lib.hid hl2; have HK2 := Lib.hid hk2; have HP2 := Lib.hid hp2
  clear k4_ k5_ z4 hl2 hk2 hsl hp2 s0 s1 s3 s4 s5
  go_wp2_with (with_reducible refine wpList_pour (o := ⟨some 53, _, _, _, _, _⟩) rfl (.const (.slice none 0 0)) (.tmp 52) 22 rfl v3.heap.size 48 (.agg #[.int .i64 0, .int .i64 0, .int .i64 0, .slice none 0 0]) 4 48 Try.underlying22 info_wait ?hz (by decide) none 0 0 [] ?hs HO A l.ws.length c (cellsW l2) ?hx HSL H1C HBD ?next)
  all_goals try rfl
  case next =>
    intro A2 c2 wE ho hg
    have hbe : Below v3.heap.size v3 wE := ⟨hg.out.os, hg.out.tape, hg.out.output, hg.out.size, fun k hk => hg.out.block k hk (by simp [Value.ownBlock])⟩
    obtain ⟨s0, s1, s2, s3, s4, s5⟩ := HB3.out
    have hoc := ho.out
    try simp only [Nat.zero_add, List.nil_append] at hoc
    have hwo : WsR (Nw (fun b => b < w.heap.size) v3 wE) wE A2 l.ws.length c2 l.ws := ⟨l2, HL2.out, HK2.out, ⟨Sl.of_own hoc, fun ad ha _ => .inr ⟨(own_block12 hoc ha).1, (own_block12 hoc ha).2⟩⟩, fun p hp => ((HP2.out p hp).under hbe).wide fun _ => .inl⟩
    have h4 := (s4.under hbe s4.lt)
    have e4 : wE.cell? ⟨v2.heap.size, 4, none⟩ = some (.slice A l.ws.length c) := h4.cell 4
    have f4 := h4.thaw 4
    have hz4_ := hbe.size
    obtain ⟨wF, hwF⟩ : ∃ wF, wE.setCell ⟨v2.heap.size, 4, none⟩ (.slice A2 l.ws.length c2) = wF := ⟨_, rfl⟩
    have hyF : wF.heap.size = wE.heap.size := by rw [← hwF]; simp [World.setCell]
    have lt7 : v2.heap.size < v3.heap.size := s4.lt
    have HB4 : Hid (Has wF (w.heap.size) 24 (lkC l A c) ∧ Has wF (w.heap.size + 1) 27 #[.int .i64 kd, .int .i64 t, .int .i64 now, .slice B xs.length d] ∧ WsR (fun b => b < w.heap.size) wF A l.ws.length c l.ws ∧ BodyR (fun b => b < w.heap.size) wF (.slice B xs.length d) xs ∧ Has wF (v2.heap.size) 24 (lkC l A2 c2) ∧ WsR (Nw (fun b => b < w.heap.size) v3 wE) wF A2 l.ws.length c2 l.ws ∧ Below w.heap.size w wF) := Lib.hid (by rw [← hwF]; exact ⟨((s0.under hbe s0.lt).apart (p := ⟨v2.heap.size, 4, none⟩) (by show _ ≠ v2.heap.size; omega) _), ((s1.under hbe s1.lt).apart (p := ⟨v2.heap.size, 4, none⟩) (by show _ ≠ v2.heap.size; omega) _), (s2.under hbe).set (by omega) _, (s3.under hbe).set (by omega) _, (h4.stored 4 _).is11 (by kernel_rfl), hwo.set (by simp only [Nw]; omega) _, (s5.trans (hbe.mono s5.size)).setCell (p := ⟨v2.heap.size, 4, none⟩) (by show w.heap.size ≤ v2.heap.size; omega) _⟩)
    have HWF := Lib.hid hwF; have hyF2 : wE.heap.size ≤ wF.heap.size := by omega
    clear s0 s1 s2 s3 s4 s5
    clear hwF hwo hoc h4 ho hg hbe hyF HB3 HSL HO H1C HBD HL2 HK2 HP2
    go_upto_region 7 with fail
    rw [HWF.out]
    clear HWF e4 f4 c4
    obtain ⟨s0, s1, s2, s3, s4, s5, s6⟩ := HB4.out
    have k1 : wF.cell? ⟨w.heap.size + 1, 1, none⟩ = some (.int .i64 t) := s1.cell 1
    have k2 : wF.cell? ⟨w.heap.size + 1, 2, none⟩ = some (.int .i64 now) := s1.cell 2
    have k3 : wF.cell? ⟨w.heap.size + 1, 3, none⟩ = some (.slice B xs.length d) := s1.cell 3
    clear s0 s1 s2 s3 s4 s5 s6
    obtain ⟨s0, s1, s2, s3, s4, s5, s6⟩ := HB4.out
    have HL0 := Lib.hid s0
    have HK := Lib.hid (S1.out (fun b => b < w.heap.size) wF A c s2 s3)
    clear s0 s1 s2 s3 s4 s5 s6
    go_wp2_with (first | (with_reducible refine wpList_load_row (o := ⟨some 56, _, _, _, _, _⟩) rfl 24 _ rfl (w.heap.size) rfl 24 (lkC l A c) (0, 0) _ (HL0.out).raw11 Try.underlying24 rfl (by kernel_rfl) ?_))
    refine HK.out.mono ?_
    rintro e v5 ⟨A11, c11, rfl, hw_, hb1⟩
    obtain ⟨s0, s1, s2, s3, s4, s5, s6⟩ := HB4.out
    have hbn : Below wF.heap.size wF v5 := hb1
    have HB5 : Hid (Has v5 (w.heap.size) 24 (lkC l A c) ∧ Has v5 (w.heap.size + 1) 27 #[.int .i64 kd, .int .i64 t, .int .i64 now, .slice B xs.length d] ∧ WsR (fun b => b < w.heap.size) v5 A l.ws.length c l.ws ∧ BodyR (fun b => b < w.heap.size) v5 (.slice B xs.length d) xs ∧ Has v5 (v2.heap.size) 24 (lkC l A2 c2) ∧ WsR (Nw (fun b => b < w.heap.size) v3 wE) v5 A2 l.ws.length c2 l.ws ∧ Below w.heap.size w v5) := Lib.hid ⟨s0.under hbn s0.lt, s1.under hbn s1.lt, s2.under hbn, s3.under hbn, s4.under hbn s4.lt, s5.under hbn, s6.trans (hbn.mono s6.size)⟩
    have hz5_ := hbn.size
    clear s0 s1 s2 s3 s4 s5 s6
    clear HK HB4 HL0 S1 hb1 k1 k2 k3
    clear hbn
    obtain ⟨s0, s1, s2, s3, s4, s5, s6⟩ := HB5.out
    have HB6 : Hid (Has v5 (w.heap.size) 24 (lkC l A c) ∧ Has v5 (w.heap.size + 1) 27 #[.int .i64 kd, .int .i64 t, .int .i64 now, .slice B xs.length d] ∧ WsR (fun b => b < w.heap.size) v5 A l.ws.length c l.ws ∧ BodyR (fun b => b < w.heap.size) v5 (.slice B xs.length d) xs ∧ Has v5 (v2.heap.size) 24 (lkC l A2 c2) ∧ WsR (Nw (fun b => b < w.heap.size) v3 wE) v5 A2 l.ws.length c2 l.ws ∧ WsR (Nw (fun b => b < w.heap.size) wF v5) v5 A11 r1.ws.length c11 r1.ws ∧ Below w.heap.size w v5) := Lib.hid ⟨s0, s1, s2, s3, s4, s5, hw_, s6⟩
    clear s0 s1 s2 s3 s4 s5 s6
    clear HB5
    clear hw_
    obtain ⟨s0, s1, s2, s3, s4, s5, s6, s7⟩ := HB6.out
    have lt5_6 : v2.heap.size < v5.heap.size := s4.lt
    have le5_6 : w.heap.size ≤ v5.heap.size := s7.size
    have HS0 : Hid (Has (v5.alloc (.cells #[.int .i64 0, .int .i64 0, .int .i64 0, .int .i64 0, .slice none 0 0] 24)) (v5.heap.size) 24 #[.int .i64 0, .int .i64 0, .int .i64 0, .int .i64 0, .slice none 0 0]) := Lib.hid (Has.made v5 24 #[.int .i64 0, .int .i64 0, .int .i64 0, .int .i64 0, .slice none 0 0])
    obtain ⟨v6, hv6⟩ : ∃ v6, (v5.alloc (.cells #[.int .i64 0, .int .i64 0, .int .i64 0, .int .i64 0, .slice none 0 0] 24)).setRow (v5.heap.size) (lkC r1 A11 c11) = v6 := ⟨_, rfl⟩
    have hy6_ : v5.heap.size + 1 ≤ v6.heap.size := by rw [← hv6]; simp
    have hbw : Below v5.heap.size v5 v6 := by rw [← hv6]; exact (below_row (g := v5.heap.size) (Below.alloc (Below.refl v5.heap.size v5) (Nat.le_refl _) (.cells #[.int .i64 0, .int .i64 0, .int .i64 0, .int .i64 0, .slice none 0 0] 24)) (by omega) (lkC r1 A11 c11))
    have HB7 : Hid (Has v6 (w.heap.size) 24 (lkC l A c) ∧ Has v6 (w.heap.size + 1) 27 #[.int .i64 kd, .int .i64 t, .int .i64 now, .slice B xs.length d] ∧ WsR (fun b => b < w.heap.size) v6 A l.ws.length c l.ws ∧ BodyR (fun b => b < w.heap.size) v6 (.slice B xs.length d) xs ∧ Has v6 (v2.heap.size) 24 (lkC l A2 c2) ∧ WsR (Nw (fun b => b < w.heap.size) v3 wE) v6 A2 l.ws.length c2 l.ws ∧ WsR (Nw (fun b => b < w.heap.size) wF v5) v6 A11 r1.ws.length c11 r1.ws ∧ Has v6 (v5.heap.size) 24 (lkC r1 A11 c11) ∧ Below w.heap.size w v6) := Lib.hid ⟨s0.under hbw s0.lt, s1.under hbw s1.lt, s2.under hbw, s3.under hbw, s4.under hbw s4.lt, s5.under hbw, s6.under hbw, (by rw [← hv6]; exact (has_row11 (Has.made v5 24 #[.int .i64 0, .int .i64 0, .int .i64 0, .int .i64 0, .slice none 0 0]) (lkC r1 A11 c11))), s7.trans (hbw.mono s7.size)⟩
    clear hbw
    have HWv6 := Lib.hid hv6
    clear s0 s1 s2 s3 s4 s5 s6 s7
    clear hv6 HB6
    go_upto_region 8 with (first | (with_reducible refine wpList_store_rowTo (o := ⟨none, _, _, _, _, _⟩) rfl 24 _ _ rfl rfl (v5.heap.size) (lkC r1 A11 c11) rfl rfl 24 _ (HS0.out).raw11 (by kernel_rfl) (by kernel_rfl) (by kernel_rfl) ?_))
    rw [HWv6.out]
    clear HWv6 HS0
    have S2' := Lib.hid (fun W A c (hw : WsR (Nw (fun b => b < w.heap.size) v3 wE) W A l.ws.length c l.ws) hx => S2.out (Nw (fun b => b < w.heap.size) v3 wE) (Nw (fun b => b < w.heap.size) v3 wE) W A c hw hx)
    clear S2
    obtain ⟨s0, s1, s2, s3, s4, s5, s6, s7, s8⟩ := HB7.out
    have k1 : v6.cell? ⟨w.heap.size + 1, 1, none⟩ = some (.int .i64 t) := s1.cell 1
    have k2 : v6.cell? ⟨w.heap.size + 1, 2, none⟩ = some (.int .i64 now) := s1.cell 2
    have k3 : v6.cell? ⟨w.heap.size + 1, 3, none⟩ = some (.slice B xs.length d) := s1.cell 3
    clear s0 s1 s2 s3 s4 s5 s6 s7 s8
    obtain ⟨s0, s1, s2, s3, s4, s5, s6, s7, s8⟩ := HB7.out
    have HL0 := Lib.hid s4
    have HK := Lib.hid (S2'.out v6 A2 c2 s5 (s3.wide fun _ => .inl))
    clear s0 s1 s2 s3 s4 s5 s6 s7 s8
    go_wp2_with (first | (with_reducible refine wpList_load_row (o := ⟨some 67, _, _, _, _, _⟩) rfl 24 _ rfl (v2.heap.size) rfl 24 (lkC l A2 c2) (0, 0) _ (HL0.out).raw11 Try.underlying24 rfl (by kernel_rfl) ?_))
    refine HK.out.mono ?_
    rintro e v7 ⟨A12, c12, rfl, hw_, hb1⟩
    obtain ⟨s0, s1, s2, s3, s4, s5, s6, s7, s8⟩ := HB7.out
    have hbn : Below v6.heap.size v6 v7 := hb1
    have HB8 : Hid (Has v7 (w.heap.size) 24 (lkC l A c) ∧ Has v7 (w.heap.size + 1) 27 #[.int .i64 kd, .int .i64 t, .int .i64 now, .slice B xs.length d] ∧ WsR (fun b => b < w.heap.size) v7 A l.ws.length c l.ws ∧ BodyR (fun b => b < w.heap.size) v7 (.slice B xs.length d) xs ∧ Has v7 (v2.heap.size) 24 (lkC l A2 c2) ∧ WsR (Nw (fun b => b < w.heap.size) v3 wE) v7 A2 l.ws.length c2 l.ws ∧ WsR (Nw (fun b => b < w.heap.size) wF v5) v7 A11 r1.ws.length c11 r1.ws ∧ Has v7 (v5.heap.size) 24 (lkC r1 A11 c11) ∧ Below w.heap.size w v7) := Lib.hid ⟨s0.under hbn s0.lt, s1.under hbn s1.lt, s2.under hbn, s3.under hbn, s4.under hbn s4.lt, s5.under hbn, s6.under hbn, s7.under hbn s7.lt, s8.trans (hbn.mono s8.size)⟩
    have hz7_ := hbn.size
    clear s0 s1 s2 s3 s4 s5 s6 s7 s8
    clear HK HB7 HL0 S2' hb1 k1 k2 k3
    clear hbn
    obtain ⟨s0, s1, s2, s3, s4, s5, s6, s7, s8⟩ := HB8.out
    have HB9 : Hid (Has v7 (w.heap.size) 24 (lkC l A c) ∧ Has v7 (w.heap.size + 1) 27 #[.int .i64 kd, .int .i64 t, .int .i64 now, .slice B xs.length d] ∧ WsR (fun b => b < w.heap.size) v7 A l.ws.length c l.ws ∧ BodyR (fun b => b < w.heap.size) v7 (.slice B xs.length d) xs ∧ Has v7 (v2.heap.size) 24 (lkC l A2 c2) ∧ WsR (Nw (fun b => b < w.heap.size) v3 wE) v7 A2 l.ws.length c2 l.ws ∧ WsR (Nw (fun b => b < w.heap.size) wF v5) v7 A11 r1.ws.length c11 r1.ws ∧ Has v7 (v5.heap.size) 24 (lkC r1 A11 c11) ∧ WsR (Nw (Nw (fun b => b < w.heap.size) v3 wE) v6 v7) v7 A12 r1.ws.length c12 r1.ws ∧ Below w.heap.size w v7) := Lib.hid ⟨s0, s1, s2, s3, s4, s5, s6, s7, hw_, s8⟩
    clear s0 s1 s2 s3 s4 s5 s6 s7 s8
    clear HB8
    clear hw_
    obtain ⟨s0, s1, s2, s3, s4, s5, s6, s7, s8, s9⟩ := HB9.out
    have lt7_9 : v5.heap.size < v7.heap.size := s7.lt
    have le7_9 : w.heap.size ≤ v7.heap.size := s9.size
    have HS0 : Hid (Has (v7.alloc (.cells #[.int .i64 0, .int .i64 0, .int .i64 0, .int .i64 0, .slice none 0 0] 24)) (v7.heap.size) 24 #[.int .i64 0, .int .i64 0, .int .i64 0, .int .i64 0, .slice none 0 0]) := Lib.hid (Has.made v7 24 #[.int .i64 0, .int .i64 0, .int .i64 0, .int .i64 0, .slice none 0 0])
    obtain ⟨v8, hv8⟩ : ∃ v8, (v7.alloc (.cells #[.int .i64 0, .int .i64 0, .int .i64 0, .int .i64 0, .slice none 0 0] 24)).setRow (v7.heap.size) (lkC r1 A12 c12) = v8 := ⟨_, rfl⟩
    have hy8_ : v7.heap.size + 1 ≤ v8.heap.size := by rw [← hv8]; simp
    have hbw : Below v7.heap.size v7 v8 := by rw [← hv8]; exact (below_row (g := v7.heap.size) (Below.alloc (Below.refl v7.heap.size v7) (Nat.le_refl _) (.cells #[.int .i64 0, .int .i64 0, .int .i64 0, .int .i64 0, .slice none 0 0] 24)) (by omega) (lkC r1 A12 c12))
    have HB10 : Hid (Has v8 (w.heap.size) 24 (lkC l A c) ∧ Has v8 (w.heap.size + 1) 27 #[.int .i64 kd, .int .i64 t, .int .i64 now, .slice B xs.length d] ∧ WsR (fun b => b < w.heap.size) v8 A l.ws.length c l.ws ∧ BodyR (fun b => b < w.heap.size) v8 (.slice B xs.length d) xs ∧ Has v8 (v2.heap.size) 24 (lkC l A2 c2) ∧ WsR (Nw (fun b => b < w.heap.size) v3 wE) v8 A2 l.ws.length c2 l.ws ∧ WsR (Nw (fun b => b < w.heap.size) wF v5) v8 A11 r1.ws.length c11 r1.ws ∧ Has v8 (v5.heap.size) 24 (lkC r1 A11 c11) ∧ WsR (Nw (Nw (fun b => b < w.heap.size) v3 wE) v6 v7) v8 A12 r1.ws.length c12 r1.ws ∧ Has v8 (v7.heap.size) 24 (lkC r1 A12 c12) ∧ Below w.heap.size w v8) := Lib.hid ⟨s0.under hbw s0.lt, s1.under hbw s1.lt, s2.under hbw, s3.under hbw, s4.under hbw s4.lt, s5.under hbw, s6.under hbw, s7.under hbw s7.lt, s8.under hbw, (by rw [← hv8]; exact (has_row11 (Has.made v7 24 #[.int .i64 0, .int .i64 0, .int .i64 0, .int .i64 0, .slice none 0 0]) (lkC r1 A12 c12))), s9.trans (hbw.mono s9.size)⟩
    clear hbw
    have HWv8 := Lib.hid hv8
    clear s0 s1 s2 s3 s4 s5 s6 s7 s8 s9
    clear hv8 HB9
    go_upto_region 9 with (first | (with_reducible refine wpList_store_rowTo (o := ⟨none, _, _, _, _, _⟩) rfl 24 _ _ rfl rfl (v7.heap.size) (lkC r1 A12 c12) rfl rfl 24 _ (HS0.out).raw11 (by kernel_rfl) (by kernel_rfl) (by kernel_rfl) ?_))
    rw [HWv8.out]
    clear HWv8 HS0
    obtain ⟨s0, s1, s2, s3, s4, s5, s6, s7, s8, s9, s10⟩ := HB10.out
    have HL0 := Lib.hid s7
    have HL1 := Lib.hid s9
    have HK := Lib.hid (lsame_any r1 r1 true (by simp) A11 c11 A12 c12 v8 s6 s8 (by omega))
    clear s0 s1 s2 s3 s4 s5 s6 s7 s8 s9 s10
    go_wp2_with (first | (with_reducible refine wpList_load_row (o := ⟨some 77, _, _, _, _, _⟩) rfl 24 _ rfl (v5.heap.size) rfl 24 (lkC r1 A11 c11) (0, 0) _ (HL0.out).raw11 Try.underlying24 rfl (by kernel_rfl) ?_) | (with_reducible refine wpList_load_row (o := ⟨some 78, _, _, _, _, _⟩) rfl 24 _ rfl (v7.heap.size) rfl 24 (lkC r1 A12 c12) (0, 0) _ (HL1.out).raw11 Try.underlying24 rfl (by kernel_rfl) ?_))
    refine HK.out.mono ?_
    rintro e v9 ⟨rfl, hb1⟩
    obtain ⟨s0, s1, s2, s3, s4, s5, s6, s7, s8, s9, s10⟩ := HB10.out
    have hbn : Below v8.heap.size v8 v9 := hb1
    have HB11 : Hid (Has v9 (w.heap.size) 24 (lkC l A c) ∧ Has v9 (w.heap.size + 1) 27 #[.int .i64 kd, .int .i64 t, .int .i64 now, .slice B xs.length d] ∧ WsR (fun b => b < w.heap.size) v9 A l.ws.length c l.ws ∧ BodyR (fun b => b < w.heap.size) v9 (.slice B xs.length d) xs ∧ Has v9 (v2.heap.size) 24 (lkC l A2 c2) ∧ WsR (Nw (fun b => b < w.heap.size) v3 wE) v9 A2 l.ws.length c2 l.ws ∧ WsR (Nw (fun b => b < w.heap.size) wF v5) v9 A11 r1.ws.length c11 r1.ws ∧ Has v9 (v5.heap.size) 24 (lkC r1 A11 c11) ∧ WsR (Nw (Nw (fun b => b < w.heap.size) v3 wE) v6 v7) v9 A12 r1.ws.length c12 r1.ws ∧ Has v9 (v7.heap.size) 24 (lkC r1 A12 c12) ∧ Below w.heap.size w v9) := Lib.hid ⟨s0.under hbn s0.lt, s1.under hbn s1.lt, s2.under hbn, s3.under hbn, s4.under hbn s4.lt, s5.under hbn, s6.under hbn, s7.under hbn s7.lt, s8.under hbn, s9.under hbn s9.lt, s10.trans (hbn.mono s10.size)⟩
    have hz9_ := hbn.size
    clear s0 s1 s2 s3 s4 s5 s6 s7 s8 s9 s10
    clear HK HB10 HL0 HL1 hb1
    clear hbn
    obtain ⟨s0, s1, s2, s3, s4, s5, s6, s7, s8, s9, s10⟩ := HB11.out
    have HB12 : Hid (Has v9 (w.heap.size) 24 (lkC l A c) ∧ Has v9 (w.heap.size + 1) 27 #[.int .i64 kd, .int .i64 t, .int .i64 now, .slice B xs.length d] ∧ WsR (fun b => b < w.heap.size) v9 A l.ws.length c l.ws ∧ BodyR (fun b => b < w.heap.size) v9 (.slice B xs.length d) xs ∧ Has v9 (v2.heap.size) 24 (lkC l A2 c2) ∧ WsR (Nw (fun b => b < w.heap.size) v3 wE) v9 A2 l.ws.length c2 l.ws ∧ WsR (Nw (fun b => b < w.heap.size) wF v5) v9 A11 r1.ws.length c11 r1.ws ∧ Has v9 (v5.heap.size) 24 (lkC r1 A11 c11) ∧ WsR (Nw (Nw (fun b => b < w.heap.size) v3 wE) v6 v7) v9 A12 r1.ws.length c12 r1.ws ∧ Below w.heap.size w v9) := Lib.hid ⟨s0, s1, s2, s3, s4, s5, s6, s7, s8, s10⟩
    clear s0 s1 s2 s3 s4 s5 s6 s7 s8 s9 s10
    clear HB11
    obtain ⟨s0, s1, s2, s3, s4, s5, s6, s7, s8, s9⟩ := HB12.out
    have HB13 : Hid (Has v9 (w.heap.size) 24 (lkC l A c) ∧ Has v9 (w.heap.size + 1) 27 #[.int .i64 kd, .int .i64 t, .int .i64 now, .slice B xs.length d] ∧ WsR (fun b => b < w.heap.size) v9 A l.ws.length c l.ws ∧ BodyR (fun b => b < w.heap.size) v9 (.slice B xs.length d) xs ∧ Has v9 (v2.heap.size) 24 (lkC l A2 c2) ∧ WsR (Nw (fun b => b < w.heap.size) v3 wE) v9 A2 l.ws.length c2 l.ws ∧ WsR (Nw (fun b => b < w.heap.size) wF v5) v9 A11 r1.ws.length c11 r1.ws ∧ Has v9 (v5.heap.size) 24 (lkC r1 A11 c11) ∧ Below w.heap.size w v9) := Lib.hid ⟨s0, s1, s2, s3, s4, s5, s6, s7, s9⟩
    clear s0 s1 s2 s3 s4 s5 s6 s7 s8 s9
    clear HB12
    obtain ⟨s0, s1, s2, s3, s4, s5, s6, s7, s8⟩ := HB13.out
    have HB14 : Hid (Has v9 (w.heap.size) 24 (lkC l A c) ∧ Has v9 (w.heap.size + 1) 27 #[.int .i64 kd, .int .i64 t, .int .i64 now, .slice B xs.length d] ∧ WsR (fun b => b < w.heap.size) v9 A l.ws.length c l.ws ∧ BodyR (fun b => b < w.heap.size) v9 (.slice B xs.length d) xs ∧ Has v9 (v2.heap.size) 24 (lkC l A2 c2) ∧ WsR (Nw (fun b => b < w.heap.size) v3 wE) v9 A2 l.ws.length c2 l.ws ∧ WsR (Nw (fun b => b < w.heap.size) wF v5) v9 A11 r1.ws.length c11 r1.ws ∧ Below w.heap.size w v9) := Lib.hid ⟨s0, s1, s2, s3, s4, s5, s6, s8⟩
    clear s0 s1 s2 s3 s4 s5 s6 s7 s8
    clear HB13
    obtain ⟨s0, s1, s2, s3, s4, s5, s6, s7⟩ := HB14.out
    have HB15 : Hid (Has v9 (w.heap.size) 24 (lkC l A c) ∧ Has v9 (w.heap.size + 1) 27 #[.int .i64 kd, .int .i64 t, .int .i64 now, .slice B xs.length d] ∧ WsR (fun b => b < w.heap.size) v9 A l.ws.length c l.ws ∧ BodyR (fun b => b < w.heap.size) v9 (.slice B xs.length d) xs ∧ Has v9 (v2.heap.size) 24 (lkC l A2 c2) ∧ WsR (Nw (fun b => b < w.heap.size) v3 wE) v9 A2 l.ws.length c2 l.ws ∧ Below w.heap.size w v9) := Lib.hid ⟨s0, s1, s2, s3, s4, s5, s7⟩
    clear s0 s1 s2 s3 s4 s5 s6 s7
    clear HB14
    obtain ⟨s0, s1, s2, s3, s4, s5, s6⟩ := HB15.out
    have k1 : v9.cell? ⟨w.heap.size + 1, 1, none⟩ = some (.int .i64 t) := s1.cell 1
    clear s0 s1 s2 s3 s4 s5 s6
    obtain ⟨s0, s1, s2, s3, s4, s5, s6⟩ := HB15.out
    have HL0 := Lib.hid s0
    have HK := Lib.hid (A1.out (fun b => b < w.heap.size) v9 A c s2)
    clear s0 s1 s2 s3 s4 s5 s6
    go_wp2_with (first | (with_reducible refine wpList_load_row (o := ⟨some 81, _, _, _, _, _⟩) rfl 24 _ rfl (w.heap.size) rfl 24 (lkC l A c) (0, 0) _ (HL0.out).raw11 Try.underlying24 rfl (by kernel_rfl) ?_))
    refine HK.out.mono ?_
    rintro e v10 ⟨A13, c13, rfl, hw_, hb1⟩
    obtain ⟨s0, s1, s2, s3, s4, s5, s6⟩ := HB15.out
    have hbn : Below v9.heap.size v9 v10 := hb1
    have HB16 : Hid (Has v10 (w.heap.size) 24 (lkC l A c) ∧ Has v10 (w.heap.size + 1) 27 #[.int .i64 kd, .int .i64 t, .int .i64 now, .slice B xs.length d] ∧ WsR (fun b => b < w.heap.size) v10 A l.ws.length c l.ws ∧ BodyR (fun b => b < w.heap.size) v10 (.slice B xs.length d) xs ∧ Has v10 (v2.heap.size) 24 (lkC l A2 c2) ∧ WsR (Nw (fun b => b < w.heap.size) v3 wE) v10 A2 l.ws.length c2 l.ws ∧ Below w.heap.size w v10) := Lib.hid ⟨s0.under hbn s0.lt, s1.under hbn s1.lt, s2.under hbn, s3.under hbn, s4.under hbn s4.lt, s5.under hbn, s6.trans (hbn.mono s6.size)⟩
    have hz10_ := hbn.size
    clear s0 s1 s2 s3 s4 s5 s6
    clear HK HB15 HL0 A1 hb1 k1
    clear hbn
    obtain ⟨s0, s1, s2, s3, s4, s5, s6⟩ := HB16.out
    have HB17 : Hid (Has v10 (w.heap.size) 24 (lkC l A c) ∧ Has v10 (w.heap.size + 1) 27 #[.int .i64 kd, .int .i64 t, .int .i64 now, .slice B xs.length d] ∧ WsR (fun b => b < w.heap.size) v10 A l.ws.length c l.ws ∧ BodyR (fun b => b < w.heap.size) v10 (.slice B xs.length d) xs ∧ Has v10 (v2.heap.size) 24 (lkC l A2 c2) ∧ WsR (Nw (fun b => b < w.heap.size) v3 wE) v10 A2 l.ws.length c2 l.ws ∧ WsR (Nw (fun b => b < w.heap.size) v9 v10) v10 A13 r2.ws.length c13 r2.ws ∧ Below w.heap.size w v10) := Lib.hid ⟨s0, s1, s2, s3, s4, s5, hw_, s6⟩
    clear s0 s1 s2 s3 s4 s5 s6
    clear HB16
    clear hw_
    obtain ⟨s0, s1, s2, s3, s4, s5, s6, s7⟩ := HB17.out
    have lt10_17 : v2.heap.size < v10.heap.size := s4.lt
    have le10_17 : w.heap.size ≤ v10.heap.size := s7.size
    have HS0 : Hid (Has (v10.alloc (.cells #[.int .i64 0, .int .i64 0, .int .i64 0, .int .i64 0, .slice none 0 0] 24)) (v10.heap.size) 24 #[.int .i64 0, .int .i64 0, .int .i64 0, .int .i64 0, .slice none 0 0]) := Lib.hid (Has.made v10 24 #[.int .i64 0, .int .i64 0, .int .i64 0, .int .i64 0, .slice none 0 0])
    obtain ⟨v11, hv11⟩ : ∃ v11, (v10.alloc (.cells #[.int .i64 0, .int .i64 0, .int .i64 0, .int .i64 0, .slice none 0 0] 24)).setRow (v10.heap.size) (lkC r2 A13 c13) = v11 := ⟨_, rfl⟩
    have hy11_ : v10.heap.size + 1 ≤ v11.heap.size := by rw [← hv11]; simp
    have hbw : Below v10.heap.size v10 v11 := by rw [← hv11]; exact (below_row (g := v10.heap.size) (Below.alloc (Below.refl v10.heap.size v10) (Nat.le_refl _) (.cells #[.int .i64 0, .int .i64 0, .int .i64 0, .int .i64 0, .slice none 0 0] 24)) (by omega) (lkC r2 A13 c13))
    have HB18 : Hid (Has v11 (w.heap.size) 24 (lkC l A c) ∧ Has v11 (w.heap.size + 1) 27 #[.int .i64 kd, .int .i64 t, .int .i64 now, .slice B xs.length d] ∧ WsR (fun b => b < w.heap.size) v11 A l.ws.length c l.ws ∧ BodyR (fun b => b < w.heap.size) v11 (.slice B xs.length d) xs ∧ Has v11 (v2.heap.size) 24 (lkC l A2 c2) ∧ WsR (Nw (fun b => b < w.heap.size) v3 wE) v11 A2 l.ws.length c2 l.ws ∧ WsR (Nw (fun b => b < w.heap.size) v9 v10) v11 A13 r2.ws.length c13 r2.ws ∧ Has v11 (v10.heap.size) 24 (lkC r2 A13 c13) ∧ Below w.heap.size w v11) := Lib.hid ⟨s0.under hbw s0.lt, s1.under hbw s1.lt, s2.under hbw, s3.under hbw, s4.under hbw s4.lt, s5.under hbw, s6.under hbw, (by rw [← hv11]; exact (has_row11 (Has.made v10 24 #[.int .i64 0, .int .i64 0, .int .i64 0, .int .i64 0, .slice none 0 0]) (lkC r2 A13 c13))), s7.trans (hbw.mono s7.size)⟩
    clear hbw
    have HWv11 := Lib.hid hv11
    clear s0 s1 s2 s3 s4 s5 s6 s7
    clear hv11 HB17
    go_upto_region 11 with (first | (with_reducible refine wpList_store_rowTo (o := ⟨none, _, _, _, _, _⟩) rfl 24 _ _ rfl rfl (v10.heap.size) (lkC r2 A13 c13) rfl rfl 24 _ (HS0.out).raw11 (by kernel_rfl) (by kernel_rfl) (by kernel_rfl) ?_))
    rw [HWv11.out]
    clear HWv11 HS0
    obtain ⟨s0, s1, s2, s3, s4, s5, s6, s7, s8⟩ := HB18.out
    have k1 : v11.cell? ⟨w.heap.size + 1, 1, none⟩ = some (.int .i64 t) := s1.cell 1
    clear s0 s1 s2 s3 s4 s5 s6 s7 s8
    obtain ⟨s0, s1, s2, s3, s4, s5, s6, s7, s8⟩ := HB18.out
    have HL0 := Lib.hid s4
    have HK := Lib.hid (A2_.out (Nw (fun b => b < w.heap.size) v3 wE) v11 A2 c2 s5)
    clear s0 s1 s2 s3 s4 s5 s6 s7 s8
    go_wp2_with (first | (with_reducible refine wpList_load_row (o := ⟨some 88, _, _, _, _, _⟩) rfl 24 _ rfl (v2.heap.size) rfl 24 (lkC l A2 c2) (0, 0) _ (HL0.out).raw11 Try.underlying24 rfl (by kernel_rfl) ?_))
    refine HK.out.mono ?_
    rintro e v12 ⟨A14, c14, rfl, hw_, hb1⟩
    obtain ⟨s0, s1, s2, s3, s4, s5, s6, s7, s8⟩ := HB18.out
    have hbn : Below v11.heap.size v11 v12 := hb1
    have HB19 : Hid (Has v12 (w.heap.size) 24 (lkC l A c) ∧ Has v12 (w.heap.size + 1) 27 #[.int .i64 kd, .int .i64 t, .int .i64 now, .slice B xs.length d] ∧ WsR (fun b => b < w.heap.size) v12 A l.ws.length c l.ws ∧ BodyR (fun b => b < w.heap.size) v12 (.slice B xs.length d) xs ∧ Has v12 (v2.heap.size) 24 (lkC l A2 c2) ∧ WsR (Nw (fun b => b < w.heap.size) v3 wE) v12 A2 l.ws.length c2 l.ws ∧ WsR (Nw (fun b => b < w.heap.size) v9 v10) v12 A13 r2.ws.length c13 r2.ws ∧ Has v12 (v10.heap.size) 24 (lkC r2 A13 c13) ∧ Below w.heap.size w v12) := Lib.hid ⟨s0.under hbn s0.lt, s1.under hbn s1.lt, s2.under hbn, s3.under hbn, s4.under hbn s4.lt, s5.under hbn, s6.under hbn, s7.under hbn s7.lt, s8.trans (hbn.mono s8.size)⟩
    have hz12_ := hbn.size
    clear s0 s1 s2 s3 s4 s5 s6 s7 s8
    clear HK HB18 HL0 A2_ hb1 k1
    clear hbn
    obtain ⟨s0, s1, s2, s3, s4, s5, s6, s7, s8⟩ := HB19.out
    have HB20 : Hid (Has v12 (w.heap.size) 24 (lkC l A c) ∧ Has v12 (w.heap.size + 1) 27 #[.int .i64 kd, .int .i64 t, .int .i64 now, .slice B xs.length d] ∧ WsR (fun b => b < w.heap.size) v12 A l.ws.length c l.ws ∧ BodyR (fun b => b < w.heap.size) v12 (.slice B xs.length d) xs ∧ Has v12 (v2.heap.size) 24 (lkC l A2 c2) ∧ WsR (Nw (fun b => b < w.heap.size) v3 wE) v12 A2 l.ws.length c2 l.ws ∧ WsR (Nw (fun b => b < w.heap.size) v9 v10) v12 A13 r2.ws.length c13 r2.ws ∧ Has v12 (v10.heap.size) 24 (lkC r2 A13 c13) ∧ WsR (Nw (Nw (fun b => b < w.heap.size) v3 wE) v11 v12) v12 A14 r2.ws.length c14 r2.ws ∧ Below w.heap.size w v12) := Lib.hid ⟨s0, s1, s2, s3, s4, s5, s6, s7, hw_, s8⟩
    clear s0 s1 s2 s3 s4 s5 s6 s7 s8
    clear HB19
    clear hw_
    obtain ⟨s0, s1, s2, s3, s4, s5, s6, s7, s8, s9⟩ := HB20.out
    have lt12_20 : v10.heap.size < v12.heap.size := s7.lt
    have le12_20 : w.heap.size ≤ v12.heap.size := s9.size
    have HS0 : Hid (Has (v12.alloc (.cells #[.int .i64 0, .int .i64 0, .int .i64 0, .int .i64 0, .slice none 0 0] 24)) (v12.heap.size) 24 #[.int .i64 0, .int .i64 0, .int .i64 0, .int .i64 0, .slice none 0 0]) := Lib.hid (Has.made v12 24 #[.int .i64 0, .int .i64 0, .int .i64 0, .int .i64 0, .slice none 0 0])
    obtain ⟨v13, hv13⟩ : ∃ v13, (v12.alloc (.cells #[.int .i64 0, .int .i64 0, .int .i64 0, .int .i64 0, .slice none 0 0] 24)).setRow (v12.heap.size) (lkC r2 A14 c14) = v13 := ⟨_, rfl⟩
    have hy13_ : v12.heap.size + 1 ≤ v13.heap.size := by rw [← hv13]; simp
    have hbw : Below v12.heap.size v12 v13 := by rw [← hv13]; exact (below_row (g := v12.heap.size) (Below.alloc (Below.refl v12.heap.size v12) (Nat.le_refl _) (.cells #[.int .i64 0, .int .i64 0, .int .i64 0, .int .i64 0, .slice none 0 0] 24)) (by omega) (lkC r2 A14 c14))
    have HB21 : Hid (Has v13 (w.heap.size) 24 (lkC l A c) ∧ Has v13 (w.heap.size + 1) 27 #[.int .i64 kd, .int .i64 t, .int .i64 now, .slice B xs.length d] ∧ WsR (fun b => b < w.heap.size) v13 A l.ws.length c l.ws ∧ BodyR (fun b => b < w.heap.size) v13 (.slice B xs.length d) xs ∧ Has v13 (v2.heap.size) 24 (lkC l A2 c2) ∧ WsR (Nw (fun b => b < w.heap.size) v3 wE) v13 A2 l.ws.length c2 l.ws ∧ WsR (Nw (fun b => b < w.heap.size) v9 v10) v13 A13 r2.ws.length c13 r2.ws ∧ Has v13 (v10.heap.size) 24 (lkC r2 A13 c13) ∧ WsR (Nw (Nw (fun b => b < w.heap.size) v3 wE) v11 v12) v13 A14 r2.ws.length c14 r2.ws ∧ Has v13 (v12.heap.size) 24 (lkC r2 A14 c14) ∧ Below w.heap.size w v13) := Lib.hid ⟨s0.under hbw s0.lt, s1.under hbw s1.lt, s2.under hbw, s3.under hbw, s4.under hbw s4.lt, s5.under hbw, s6.under hbw, s7.under hbw s7.lt, s8.under hbw, (by rw [← hv13]; exact (has_row11 (Has.made v12 24 #[.int .i64 0, .int .i64 0, .int .i64 0, .int .i64 0, .slice none 0 0]) (lkC r2 A14 c14))), s9.trans (hbw.mono s9.size)⟩
    clear hbw
    have HWv13 := Lib.hid hv13
    clear s0 s1 s2 s3 s4 s5 s6 s7 s8 s9
    clear hv13 HB20
    go_upto_region 12 with (first | (with_reducible refine wpList_store_rowTo (o := ⟨none, _, _, _, _, _⟩) rfl 24 _ _ rfl rfl (v12.heap.size) (lkC r2 A14 c14) rfl rfl 24 _ (HS0.out).raw11 (by kernel_rfl) (by kernel_rfl) (by kernel_rfl) ?_))
    rw [HWv13.out]
    clear HWv13 HS0
    obtain ⟨s0, s1, s2, s3, s4, s5, s6, s7, s8, s9, s10⟩ := HB21.out
    have HL0 := Lib.hid s7
    have HL1 := Lib.hid s9
    have HK := Lib.hid (lsame_any r2 r2 true (by simp) A13 c13 A14 c14 v13 s6 s8 (by omega))
    clear s0 s1 s2 s3 s4 s5 s6 s7 s8 s9 s10
    go_wp2_with (first | (with_reducible refine wpList_load_row (o := ⟨some 94, _, _, _, _, _⟩) rfl 24 _ rfl (v10.heap.size) rfl 24 (lkC r2 A13 c13) (0, 0) _ (HL0.out).raw11 Try.underlying24 rfl (by kernel_rfl) ?_) | (with_reducible refine wpList_load_row (o := ⟨some 95, _, _, _, _, _⟩) rfl 24 _ rfl (v12.heap.size) rfl 24 (lkC r2 A14 c14) (0, 0) _ (HL1.out).raw11 Try.underlying24 rfl (by kernel_rfl) ?_))
    refine HK.out.mono ?_
    rintro e v14 ⟨rfl, hb1⟩
    obtain ⟨s0, s1, s2, s3, s4, s5, s6, s7, s8, s9, s10⟩ := HB21.out
    have hbn : Below v13.heap.size v13 v14 := hb1
    have HB22 : Hid (Has v14 (w.heap.size) 24 (lkC l A c) ∧ Has v14 (w.heap.size + 1) 27 #[.int .i64 kd, .int .i64 t, .int .i64 now, .slice B xs.length d] ∧ WsR (fun b => b < w.heap.size) v14 A l.ws.length c l.ws ∧ BodyR (fun b => b < w.heap.size) v14 (.slice B xs.length d) xs ∧ Has v14 (v2.heap.size) 24 (lkC l A2 c2) ∧ WsR (Nw (fun b => b < w.heap.size) v3 wE) v14 A2 l.ws.length c2 l.ws ∧ WsR (Nw (fun b => b < w.heap.size) v9 v10) v14 A13 r2.ws.length c13 r2.ws ∧ Has v14 (v10.heap.size) 24 (lkC r2 A13 c13) ∧ WsR (Nw (Nw (fun b => b < w.heap.size) v3 wE) v11 v12) v14 A14 r2.ws.length c14 r2.ws ∧ Has v14 (v12.heap.size) 24 (lkC r2 A14 c14) ∧ Below w.heap.size w v14) := Lib.hid ⟨s0.under hbn s0.lt, s1.under hbn s1.lt, s2.under hbn, s3.under hbn, s4.under hbn s4.lt, s5.under hbn, s6.under hbn, s7.under hbn s7.lt, s8.under hbn, s9.under hbn s9.lt, s10.trans (hbn.mono s10.size)⟩
    have hz14_ := hbn.size
    clear s0 s1 s2 s3 s4 s5 s6 s7 s8 s9 s10
    clear HK HB21 HL0 HL1 hb1
    clear hbn
    obtain ⟨s0, s1, s2, s3, s4, s5, s6, s7, s8, s9, s10⟩ := HB22.out
    have HB23 : Hid (Has v14 (w.heap.size) 24 (lkC l A c) ∧ Has v14 (w.heap.size + 1) 27 #[.int .i64 kd, .int .i64 t, .int .i64 now, .slice B xs.length d] ∧ WsR (fun b => b < w.heap.size) v14 A l.ws.length c l.ws ∧ BodyR (fun b => b < w.heap.size) v14 (.slice B xs.length d) xs ∧ Has v14 (v2.heap.size) 24 (lkC l A2 c2) ∧ WsR (Nw (fun b => b < w.heap.size) v3 wE) v14 A2 l.ws.length c2 l.ws ∧ WsR (Nw (fun b => b < w.heap.size) v9 v10) v14 A13 r2.ws.length c13 r2.ws ∧ Has v14 (v10.heap.size) 24 (lkC r2 A13 c13) ∧ WsR (Nw (Nw (fun b => b < w.heap.size) v3 wE) v11 v12) v14 A14 r2.ws.length c14 r2.ws ∧ Below w.heap.size w v14) := Lib.hid ⟨s0, s1, s2, s3, s4, s5, s6, s7, s8, s10⟩
    clear s0 s1 s2 s3 s4 s5 s6 s7 s8 s9 s10
    clear HB22
    obtain ⟨s0, s1, s2, s3, s4, s5, s6, s7, s8, s9⟩ := HB23.out
    have HB24 : Hid (Has v14 (w.heap.size) 24 (lkC l A c) ∧ Has v14 (w.heap.size + 1) 27 #[.int .i64 kd, .int .i64 t, .int .i64 now, .slice B xs.length d] ∧ WsR (fun b => b < w.heap.size) v14 A l.ws.length c l.ws ∧ BodyR (fun b => b < w.heap.size) v14 (.slice B xs.length d) xs ∧ Has v14 (v2.heap.size) 24 (lkC l A2 c2) ∧ WsR (Nw (fun b => b < w.heap.size) v3 wE) v14 A2 l.ws.length c2 l.ws ∧ WsR (Nw (fun b => b < w.heap.size) v9 v10) v14 A13 r2.ws.length c13 r2.ws ∧ Has v14 (v10.heap.size) 24 (lkC r2 A13 c13) ∧ Below w.heap.size w v14) := Lib.hid ⟨s0, s1, s2, s3, s4, s5, s6, s7, s9⟩
    clear s0 s1 s2 s3 s4 s5 s6 s7 s8 s9
    clear HB23
    obtain ⟨s0, s1, s2, s3, s4, s5, s6, s7, s8⟩ := HB24.out
    have HB25 : Hid (Has v14 (w.heap.size) 24 (lkC l A c) ∧ Has v14 (w.heap.size + 1) 27 #[.int .i64 kd, .int .i64 t, .int .i64 now, .slice B xs.length d] ∧ WsR (fun b => b < w.heap.size) v14 A l.ws.length c l.ws ∧ BodyR (fun b => b < w.heap.size) v14 (.slice B xs.length d) xs ∧ Has v14 (v2.heap.size) 24 (lkC l A2 c2) ∧ WsR (Nw (fun b => b < w.heap.size) v3 wE) v14 A2 l.ws.length c2 l.ws ∧ WsR (Nw (fun b => b < w.heap.size) v9 v10) v14 A13 r2.ws.length c13 r2.ws ∧ Below w.heap.size w v14) := Lib.hid ⟨s0, s1, s2, s3, s4, s5, s6, s8⟩
    clear s0 s1 s2 s3 s4 s5 s6 s7 s8
    clear HB24
    obtain ⟨s0, s1, s2, s3, s4, s5, s6, s7⟩ := HB25.out
    have HB26 : Hid (Has v14 (w.heap.size) 24 (lkC l A c) ∧ Has v14 (w.heap.size + 1) 27 #[.int .i64 kd, .int .i64 t, .int .i64 now, .slice B xs.length d] ∧ WsR (fun b => b < w.heap.size) v14 A l.ws.length c l.ws ∧ BodyR (fun b => b < w.heap.size) v14 (.slice B xs.length d) xs ∧ Has v14 (v2.heap.size) 24 (lkC l A2 c2) ∧ WsR (Nw (fun b => b < w.heap.size) v3 wE) v14 A2 l.ws.length c2 l.ws ∧ Below w.heap.size w v14) := Lib.hid ⟨s0, s1, s2, s3, s4, s5, s7⟩
    clear s0 s1 s2 s3 s4 s5 s6 s7
    clear HB25
    obtain ⟨s0, s1, s2, s3, s4, s5, s6⟩ := HB26.out
    have k2 : v14.cell? ⟨w.heap.size + 1, 2, none⟩ = some (.int .i64 now) := s1.cell 2
    clear s0 s1 s2 s3 s4 s5 s6
    obtain ⟨s0, s1, s2, s3, s4, s5, s6⟩ := HB26.out
    have HL0 := Lib.hid s0
    have HK := Lib.hid (E1.out (fun b => b < w.heap.size) v14 A c s2)
    clear s0 s1 s2 s3 s4 s5 s6
    go_wp2_with (first | (with_reducible refine wpList_load_row (o := ⟨some 98, _, _, _, _, _⟩) rfl 24 _ rfl (w.heap.size) rfl 24 (lkC l A c) (0, 0) _ (HL0.out).raw11 Try.underlying24 rfl (by kernel_rfl) ?_))
    refine HK.out.mono ?_
    rintro e v15 ⟨A15, c15, rfl, hw_, hb1⟩
    obtain ⟨s0, s1, s2, s3, s4, s5, s6⟩ := HB26.out
    have hbn : Below v14.heap.size v14 v15 := hb1
    have HB27 : Hid (Has v15 (w.heap.size) 24 (lkC l A c) ∧ Has v15 (w.heap.size + 1) 27 #[.int .i64 kd, .int .i64 t, .int .i64 now, .slice B xs.length d] ∧ WsR (fun b => b < w.heap.size) v15 A l.ws.length c l.ws ∧ BodyR (fun b => b < w.heap.size) v15 (.slice B xs.length d) xs ∧ Has v15 (v2.heap.size) 24 (lkC l A2 c2) ∧ WsR (Nw (fun b => b < w.heap.size) v3 wE) v15 A2 l.ws.length c2 l.ws ∧ Below w.heap.size w v15) := Lib.hid ⟨s0.under hbn s0.lt, s1.under hbn s1.lt, s2.under hbn, s3.under hbn, s4.under hbn s4.lt, s5.under hbn, s6.trans (hbn.mono s6.size)⟩
    have hz15_ := hbn.size
    clear s0 s1 s2 s3 s4 s5 s6
    clear HK HB26 HL0 E1 hb1 k2
    clear hbn
    obtain ⟨s0, s1, s2, s3, s4, s5, s6⟩ := HB27.out
    have HB28 : Hid (Has v15 (w.heap.size) 24 (lkC l A c) ∧ Has v15 (w.heap.size + 1) 27 #[.int .i64 kd, .int .i64 t, .int .i64 now, .slice B xs.length d] ∧ WsR (fun b => b < w.heap.size) v15 A l.ws.length c l.ws ∧ BodyR (fun b => b < w.heap.size) v15 (.slice B xs.length d) xs ∧ Has v15 (v2.heap.size) 24 (lkC l A2 c2) ∧ WsR (Nw (fun b => b < w.heap.size) v3 wE) v15 A2 l.ws.length c2 l.ws ∧ WsR (Nw (fun b => b < w.heap.size) v14 v15) v15 A15 r3.ws.length c15 r3.ws ∧ Below w.heap.size w v15) := Lib.hid ⟨s0, s1, s2, s3, s4, s5, hw_, s6⟩
    clear s0 s1 s2 s3 s4 s5 s6
    clear HB27
    clear hw_
    obtain ⟨s0, s1, s2, s3, s4, s5, s6, s7⟩ := HB28.out
    have lt15_28 : v2.heap.size < v15.heap.size := s4.lt
    have le15_28 : w.heap.size ≤ v15.heap.size := s7.size
    have HS0 : Hid (Has (v15.alloc (.cells #[.int .i64 0, .int .i64 0, .int .i64 0, .int .i64 0, .slice none 0 0] 24)) (v15.heap.size) 24 #[.int .i64 0, .int .i64 0, .int .i64 0, .int .i64 0, .slice none 0 0]) := Lib.hid (Has.made v15 24 #[.int .i64 0, .int .i64 0, .int .i64 0, .int .i64 0, .slice none 0 0])
    obtain ⟨v16, hv16⟩ : ∃ v16, (v15.alloc (.cells #[.int .i64 0, .int .i64 0, .int .i64 0, .int .i64 0, .slice none 0 0] 24)).setRow (v15.heap.size) (lkC r3 A15 c15) = v16 := ⟨_, rfl⟩
    have hy16_ : v15.heap.size + 1 ≤ v16.heap.size := by rw [← hv16]; simp
    have hbw : Below v15.heap.size v15 v16 := by rw [← hv16]; exact (below_row (g := v15.heap.size) (Below.alloc (Below.refl v15.heap.size v15) (Nat.le_refl _) (.cells #[.int .i64 0, .int .i64 0, .int .i64 0, .int .i64 0, .slice none 0 0] 24)) (by omega) (lkC r3 A15 c15))
    have HB29 : Hid (Has v16 (w.heap.size) 24 (lkC l A c) ∧ Has v16 (w.heap.size + 1) 27 #[.int .i64 kd, .int .i64 t, .int .i64 now, .slice B xs.length d] ∧ WsR (fun b => b < w.heap.size) v16 A l.ws.length c l.ws ∧ BodyR (fun b => b < w.heap.size) v16 (.slice B xs.length d) xs ∧ Has v16 (v2.heap.size) 24 (lkC l A2 c2) ∧ WsR (Nw (fun b => b < w.heap.size) v3 wE) v16 A2 l.ws.length c2 l.ws ∧ WsR (Nw (fun b => b < w.heap.size) v14 v15) v16 A15 r3.ws.length c15 r3.ws ∧ Has v16 (v15.heap.size) 24 (lkC r3 A15 c15) ∧ Below w.heap.size w v16) := Lib.hid ⟨s0.under hbw s0.lt, s1.under hbw s1.lt, s2.under hbw, s3.under hbw, s4.under hbw s4.lt, s5.under hbw, s6.under hbw, (by rw [← hv16]; exact (has_row11 (Has.made v15 24 #[.int .i64 0, .int .i64 0, .int .i64 0, .int .i64 0, .slice none 0 0]) (lkC r3 A15 c15))), s7.trans (hbw.mono s7.size)⟩
    clear hbw
    have HWv16 := Lib.hid hv16
    clear s0 s1 s2 s3 s4 s5 s6 s7
    clear hv16 HB28
    go_upto_region 14 with (first | (with_reducible refine wpList_store_rowTo (o := ⟨none, _, _, _, _, _⟩) rfl 24 _ _ rfl rfl (v15.heap.size) (lkC r3 A15 c15) rfl rfl 24 _ (HS0.out).raw11 (by kernel_rfl) (by kernel_rfl) (by kernel_rfl) ?_))
    rw [HWv16.out]
    clear HWv16 HS0
    obtain ⟨s0, s1, s2, s3, s4, s5, s6, s7, s8⟩ := HB29.out
    have k2 : v16.cell? ⟨w.heap.size + 1, 2, none⟩ = some (.int .i64 now) := s1.cell 2
    clear s0 s1 s2 s3 s4 s5 s6 s7 s8
    obtain ⟨s0, s1, s2, s3, s4, s5, s6, s7, s8⟩ := HB29.out
    have HL0 := Lib.hid s4
    have HK := Lib.hid (E2.out (Nw (fun b => b < w.heap.size) v3 wE) v16 A2 c2 s5)
    clear s0 s1 s2 s3 s4 s5 s6 s7 s8
    go_wp2_with (first | (with_reducible refine wpList_load_row (o := ⟨some 105, _, _, _, _, _⟩) rfl 24 _ rfl (v2.heap.size) rfl 24 (lkC l A2 c2) (0, 0) _ (HL0.out).raw11 Try.underlying24 rfl (by kernel_rfl) ?_))
    refine HK.out.mono ?_
    rintro e v17 ⟨A16, c16, rfl, hw_, hb1⟩
    obtain ⟨s0, s1, s2, s3, s4, s5, s6, s7, s8⟩ := HB29.out
    have hbn : Below v16.heap.size v16 v17 := hb1
    have HB30 : Hid (Has v17 (w.heap.size) 24 (lkC l A c) ∧ Has v17 (w.heap.size + 1) 27 #[.int .i64 kd, .int .i64 t, .int .i64 now, .slice B xs.length d] ∧ WsR (fun b => b < w.heap.size) v17 A l.ws.length c l.ws ∧ BodyR (fun b => b < w.heap.size) v17 (.slice B xs.length d) xs ∧ Has v17 (v2.heap.size) 24 (lkC l A2 c2) ∧ WsR (Nw (fun b => b < w.heap.size) v3 wE) v17 A2 l.ws.length c2 l.ws ∧ WsR (Nw (fun b => b < w.heap.size) v14 v15) v17 A15 r3.ws.length c15 r3.ws ∧ Has v17 (v15.heap.size) 24 (lkC r3 A15 c15) ∧ Below w.heap.size w v17) := Lib.hid ⟨s0.under hbn s0.lt, s1.under hbn s1.lt, s2.under hbn, s3.under hbn, s4.under hbn s4.lt, s5.under hbn, s6.under hbn, s7.under hbn s7.lt, s8.trans (hbn.mono s8.size)⟩
    have hz17_ := hbn.size
    clear s0 s1 s2 s3 s4 s5 s6 s7 s8
    clear HK HB29 HL0 E2 hb1 k2
    clear hbn
    obtain ⟨s0, s1, s2, s3, s4, s5, s6, s7, s8⟩ := HB30.out
    have HB31 : Hid (Has v17 (w.heap.size) 24 (lkC l A c) ∧ Has v17 (w.heap.size + 1) 27 #[.int .i64 kd, .int .i64 t, .int .i64 now, .slice B xs.length d] ∧ WsR (fun b => b < w.heap.size) v17 A l.ws.length c l.ws ∧ BodyR (fun b => b < w.heap.size) v17 (.slice B xs.length d) xs ∧ Has v17 (v2.heap.size) 24 (lkC l A2 c2) ∧ WsR (Nw (fun b => b < w.heap.size) v3 wE) v17 A2 l.ws.length c2 l.ws ∧ WsR (Nw (fun b => b < w.heap.size) v14 v15) v17 A15 r3.ws.length c15 r3.ws ∧ Has v17 (v15.heap.size) 24 (lkC r3 A15 c15) ∧ WsR (Nw (Nw (fun b => b < w.heap.size) v3 wE) v16 v17) v17 A16 r3.ws.length c16 r3.ws ∧ Below w.heap.size w v17) := Lib.hid ⟨s0, s1, s2, s3, s4, s5, s6, s7, hw_, s8⟩
    clear s0 s1 s2 s3 s4 s5 s6 s7 s8
    clear HB30
    clear hw_
    obtain ⟨s0, s1, s2, s3, s4, s5, s6, s7, s8, s9⟩ := HB31.out
    have lt17_31 : v15.heap.size < v17.heap.size := s7.lt
    have le17_31 : w.heap.size ≤ v17.heap.size := s9.size
    have HS0 : Hid (Has (v17.alloc (.cells #[.int .i64 0, .int .i64 0, .int .i64 0, .int .i64 0, .slice none 0 0] 24)) (v17.heap.size) 24 #[.int .i64 0, .int .i64 0, .int .i64 0, .int .i64 0, .slice none 0 0]) := Lib.hid (Has.made v17 24 #[.int .i64 0, .int .i64 0, .int .i64 0, .int .i64 0, .slice none 0 0])
    obtain ⟨v18, hv18⟩ : ∃ v18, (v17.alloc (.cells #[.int .i64 0, .int .i64 0, .int .i64 0, .int .i64 0, .slice none 0 0] 24)).setRow (v17.heap.size) (lkC r3 A16 c16) = v18 := ⟨_, rfl⟩
    have hy18_ : v17.heap.size + 1 ≤ v18.heap.size := by rw [← hv18]; simp
    have hbw : Below v17.heap.size v17 v18 := by rw [← hv18]; exact (below_row (g := v17.heap.size) (Below.alloc (Below.refl v17.heap.size v17) (Nat.le_refl _) (.cells #[.int .i64 0, .int .i64 0, .int .i64 0, .int .i64 0, .slice none 0 0] 24)) (by omega) (lkC r3 A16 c16))
    have HB32 : Hid (Has v18 (w.heap.size) 24 (lkC l A c) ∧ Has v18 (w.heap.size + 1) 27 #[.int .i64 kd, .int .i64 t, .int .i64 now, .slice B xs.length d] ∧ WsR (fun b => b < w.heap.size) v18 A l.ws.length c l.ws ∧ BodyR (fun b => b < w.heap.size) v18 (.slice B xs.length d) xs ∧ Has v18 (v2.heap.size) 24 (lkC l A2 c2) ∧ WsR (Nw (fun b => b < w.heap.size) v3 wE) v18 A2 l.ws.length c2 l.ws ∧ WsR (Nw (fun b => b < w.heap.size) v14 v15) v18 A15 r3.ws.length c15 r3.ws ∧ Has v18 (v15.heap.size) 24 (lkC r3 A15 c15) ∧ WsR (Nw (Nw (fun b => b < w.heap.size) v3 wE) v16 v17) v18 A16 r3.ws.length c16 r3.ws ∧ Has v18 (v17.heap.size) 24 (lkC r3 A16 c16) ∧ Below w.heap.size w v18) := Lib.hid ⟨s0.under hbw s0.lt, s1.under hbw s1.lt, s2.under hbw, s3.under hbw, s4.under hbw s4.lt, s5.under hbw, s6.under hbw, s7.under hbw s7.lt, s8.under hbw, (by rw [← hv18]; exact (has_row11 (Has.made v17 24 #[.int .i64 0, .int .i64 0, .int .i64 0, .int .i64 0, .slice none 0 0]) (lkC r3 A16 c16))), s9.trans (hbw.mono s9.size)⟩
    clear hbw
    have HWv18 := Lib.hid hv18
    clear s0 s1 s2 s3 s4 s5 s6 s7 s8 s9
    clear hv18 HB31
    go_upto_region 15 with (first | (with_reducible refine wpList_store_rowTo (o := ⟨none, _, _, _, _, _⟩) rfl 24 _ _ rfl rfl (v17.heap.size) (lkC r3 A16 c16) rfl rfl 24 _ (HS0.out).raw11 (by kernel_rfl) (by kernel_rfl) (by kernel_rfl) ?_))
    rw [HWv18.out]
    clear HWv18 HS0
    obtain ⟨s0, s1, s2, s3, s4, s5, s6, s7, s8, s9, s10⟩ := HB32.out
    have HL0 := Lib.hid s7
    have HL1 := Lib.hid s9
    have HK := Lib.hid (lsame_any r3 r3 true (by simp) A15 c15 A16 c16 v18 s6 s8 (by omega))
    clear s0 s1 s2 s3 s4 s5 s6 s7 s8 s9 s10
    go_wp2_with (first | (with_reducible refine wpList_load_row (o := ⟨some 111, _, _, _, _, _⟩) rfl 24 _ rfl (v15.heap.size) rfl 24 (lkC r3 A15 c15) (0, 0) _ (HL0.out).raw11 Try.underlying24 rfl (by kernel_rfl) ?_) | (with_reducible refine wpList_load_row (o := ⟨some 112, _, _, _, _, _⟩) rfl 24 _ rfl (v17.heap.size) rfl 24 (lkC r3 A16 c16) (0, 0) _ (HL1.out).raw11 Try.underlying24 rfl (by kernel_rfl) ?_))
    refine HK.out.mono ?_
    rintro e v19 ⟨rfl, hb1⟩
    obtain ⟨s0, s1, s2, s3, s4, s5, s6, s7, s8, s9, s10⟩ := HB32.out
    have hbn : Below v18.heap.size v18 v19 := hb1
    have HB33 : Hid (Has v19 (w.heap.size) 24 (lkC l A c) ∧ Has v19 (w.heap.size + 1) 27 #[.int .i64 kd, .int .i64 t, .int .i64 now, .slice B xs.length d] ∧ WsR (fun b => b < w.heap.size) v19 A l.ws.length c l.ws ∧ BodyR (fun b => b < w.heap.size) v19 (.slice B xs.length d) xs ∧ Has v19 (v2.heap.size) 24 (lkC l A2 c2) ∧ WsR (Nw (fun b => b < w.heap.size) v3 wE) v19 A2 l.ws.length c2 l.ws ∧ WsR (Nw (fun b => b < w.heap.size) v14 v15) v19 A15 r3.ws.length c15 r3.ws ∧ Has v19 (v15.heap.size) 24 (lkC r3 A15 c15) ∧ WsR (Nw (Nw (fun b => b < w.heap.size) v3 wE) v16 v17) v19 A16 r3.ws.length c16 r3.ws ∧ Has v19 (v17.heap.size) 24 (lkC r3 A16 c16) ∧ Below w.heap.size w v19) := Lib.hid ⟨s0.under hbn s0.lt, s1.under hbn s1.lt, s2.under hbn, s3.under hbn, s4.under hbn s4.lt, s5.under hbn, s6.under hbn, s7.under hbn s7.lt, s8.under hbn, s9.under hbn s9.lt, s10.trans (hbn.mono s10.size)⟩
    have hz19_ := hbn.size
    clear s0 s1 s2 s3 s4 s5 s6 s7 s8 s9 s10
    clear HK HB32 HL0 HL1 hb1
    clear hbn
    obtain ⟨s0, s1, s2, s3, s4, s5, s6, s7, s8, s9, s10⟩ := HB33.out
    have HB34 : Hid (Has v19 (w.heap.size) 24 (lkC l A c) ∧ Has v19 (w.heap.size + 1) 27 #[.int .i64 kd, .int .i64 t, .int .i64 now, .slice B xs.length d] ∧ WsR (fun b => b < w.heap.size) v19 A l.ws.length c l.ws ∧ BodyR (fun b => b < w.heap.size) v19 (.slice B xs.length d) xs ∧ Has v19 (v2.heap.size) 24 (lkC l A2 c2) ∧ WsR (Nw (fun b => b < w.heap.size) v3 wE) v19 A2 l.ws.length c2 l.ws ∧ WsR (Nw (fun b => b < w.heap.size) v14 v15) v19 A15 r3.ws.length c15 r3.ws ∧ Has v19 (v15.heap.size) 24 (lkC r3 A15 c15) ∧ WsR (Nw (Nw (fun b => b < w.heap.size) v3 wE) v16 v17) v19 A16 r3.ws.length c16 r3.ws ∧ Below w.heap.size w v19) := Lib.hid ⟨s0, s1, s2, s3, s4, s5, s6, s7, s8, s10⟩
    clear s0 s1 s2 s3 s4 s5 s6 s7 s8 s9 s10
    clear HB33
    obtain ⟨s0, s1, s2, s3, s4, s5, s6, s7, s8, s9⟩ := HB34.out
    have HB35 : Hid (Has v19 (w.heap.size) 24 (lkC l A c) ∧ Has v19 (w.heap.size + 1) 27 #[.int .i64 kd, .int .i64 t, .int .i64 now, .slice B xs.length d] ∧ WsR (fun b => b < w.heap.size) v19 A l.ws.length c l.ws ∧ BodyR (fun b => b < w.heap.size) v19 (.slice B xs.length d) xs ∧ Has v19 (v2.heap.size) 24 (lkC l A2 c2) ∧ WsR (Nw (fun b => b < w.heap.size) v3 wE) v19 A2 l.ws.length c2 l.ws ∧ WsR (Nw (fun b => b < w.heap.size) v14 v15) v19 A15 r3.ws.length c15 r3.ws ∧ Has v19 (v15.heap.size) 24 (lkC r3 A15 c15) ∧ Below w.heap.size w v19) := Lib.hid ⟨s0, s1, s2, s3, s4, s5, s6, s7, s9⟩
    clear s0 s1 s2 s3 s4 s5 s6 s7 s8 s9
    clear HB34
    obtain ⟨s0, s1, s2, s3, s4, s5, s6, s7, s8⟩ := HB35.out
    have HB36 : Hid (Has v19 (w.heap.size) 24 (lkC l A c) ∧ Has v19 (w.heap.size + 1) 27 #[.int .i64 kd, .int .i64 t, .int .i64 now, .slice B xs.length d] ∧ WsR (fun b => b < w.heap.size) v19 A l.ws.length c l.ws ∧ BodyR (fun b => b < w.heap.size) v19 (.slice B xs.length d) xs ∧ Has v19 (v2.heap.size) 24 (lkC l A2 c2) ∧ WsR (Nw (fun b => b < w.heap.size) v3 wE) v19 A2 l.ws.length c2 l.ws ∧ WsR (Nw (fun b => b < w.heap.size) v14 v15) v19 A15 r3.ws.length c15 r3.ws ∧ Below w.heap.size w v19) := Lib.hid ⟨s0, s1, s2, s3, s4, s5, s6, s8⟩
    clear s0 s1 s2 s3 s4 s5 s6 s7 s8
    clear HB35
    obtain ⟨s0, s1, s2, s3, s4, s5, s6, s7⟩ := HB36.out
    have HB37 : Hid (Has v19 (w.heap.size) 24 (lkC l A c) ∧ Has v19 (w.heap.size + 1) 27 #[.int .i64 kd, .int .i64 t, .int .i64 now, .slice B xs.length d] ∧ WsR (fun b => b < w.heap.size) v19 A l.ws.length c l.ws ∧ BodyR (fun b => b < w.heap.size) v19 (.slice B xs.length d) xs ∧ Has v19 (v2.heap.size) 24 (lkC l A2 c2) ∧ WsR (Nw (fun b => b < w.heap.size) v3 wE) v19 A2 l.ws.length c2 l.ws ∧ Below w.heap.size w v19) := Lib.hid ⟨s0, s1, s2, s3, s4, s5, s7⟩
    clear s0 s1 s2 s3 s4 s5 s6 s7
    clear HB36
    obtain ⟨s0, s1, s2, s3, s4, s5, s6⟩ := HB37.out
    have k2 : v19.cell? ⟨w.heap.size + 1, 2, none⟩ = some (.int .i64 now) := s1.cell 2
    clear s0 s1 s2 s3 s4 s5 s6
    obtain ⟨s0, s1, s2, s3, s4, s5, s6⟩ := HB37.out
    have HL0 := Lib.hid s0
    have HK := Lib.hid (T1.out (fun b => b < w.heap.size) v19 A c s2)
    clear s0 s1 s2 s3 s4 s5 s6
    go_wp2_with (first | (with_reducible refine wpList_load_row (o := ⟨some 115, _, _, _, _, _⟩) rfl 24 _ rfl (w.heap.size) rfl 24 (lkC l A c) (0, 0) _ (HL0.out).raw11 Try.underlying24 rfl (by kernel_rfl) ?_))
    refine HK.out.mono ?_
    rintro e v20 ⟨A17, c17, B17, d17, rfl, hw_, hl_, hb1⟩
    obtain ⟨s0, s1, s2, s3, s4, s5, s6⟩ := HB37.out
    have hbn : Below v19.heap.size v19 v20 := hb1
    have HB38 : Hid (Has v20 (w.heap.size) 24 (lkC l A c) ∧ Has v20 (w.heap.size + 1) 27 #[.int .i64 kd, .int .i64 t, .int .i64 now, .slice B xs.length d] ∧ WsR (fun b => b < w.heap.size) v20 A l.ws.length c l.ws ∧ BodyR (fun b => b < w.heap.size) v20 (.slice B xs.length d) xs ∧ Has v20 (v2.heap.size) 24 (lkC l A2 c2) ∧ WsR (Nw (fun b => b < w.heap.size) v3 wE) v20 A2 l.ws.length c2 l.ws ∧ Below w.heap.size w v20) := Lib.hid ⟨s0.under hbn s0.lt, s1.under hbn s1.lt, s2.under hbn, s3.under hbn, s4.under hbn s4.lt, s5.under hbn, s6.trans (hbn.mono s6.size)⟩
    have hz20_ := hbn.size
    clear s0 s1 s2 s3 s4 s5 s6
    clear HK HB37 HL0 T1 hb1 k2
    clear hbn
    obtain ⟨s0, s1, s2, s3, s4, s5, s6⟩ := HB38.out
    have HB39 : Hid (Has v20 (w.heap.size) 24 (lkC l A c) ∧ Has v20 (w.heap.size + 1) 27 #[.int .i64 kd, .int .i64 t, .int .i64 now, .slice B xs.length d] ∧ WsR (fun b => b < w.heap.size) v20 A l.ws.length c l.ws ∧ BodyR (fun b => b < w.heap.size) v20 (.slice B xs.length d) xs ∧ Has v20 (v2.heap.size) 24 (lkC l A2 c2) ∧ WsR (Nw (fun b => b < w.heap.size) v3 wE) v20 A2 l.ws.length c2 l.ws ∧ WsR (Nw (fun b => b < w.heap.size) v19 v20) v20 A17 r4.ws.length c17 r4.ws ∧ Below w.heap.size w v20) := Lib.hid ⟨s0, s1, s2, s3, s4, s5, hw_, s6⟩
    clear s0 s1 s2 s3 s4 s5 s6
    clear HB38
    obtain ⟨s0, s1, s2, s3, s4, s5, s6, s7⟩ := HB39.out
    have HB40 : Hid (Has v20 (w.heap.size) 24 (lkC l A c) ∧ Has v20 (w.heap.size + 1) 27 #[.int .i64 kd, .int .i64 t, .int .i64 now, .slice B xs.length d] ∧ WsR (fun b => b < w.heap.size) v20 A l.ws.length c l.ws ∧ BodyR (fun b => b < w.heap.size) v20 (.slice B xs.length d) xs ∧ Has v20 (v2.heap.size) 24 (lkC l A2 c2) ∧ WsR (Nw (fun b => b < w.heap.size) v3 wE) v20 A2 l.ws.length c2 l.ws ∧ WsR (Nw (fun b => b < w.heap.size) v19 v20) v20 A17 r4.ws.length c17 r4.ws ∧ LsR (Nw (fun b => b < w.heap.size) v19 v20) v20 B17 ra.length d17 ra ∧ Below w.heap.size w v20) := Lib.hid ⟨s0, s1, s2, s3, s4, s5, s6, hl_, s7⟩
    clear s0 s1 s2 s3 s4 s5 s6 s7
    clear HB39
    clear hw_ hl_
    obtain ⟨s0, s1, s2, s3, s4, s5, s6, s7, s8⟩ := HB40.out
    have lt20_40 : v2.heap.size < v20.heap.size := s4.lt
    have le20_40 : w.heap.size ≤ v20.heap.size := s8.size
    have HS0 : Hid (Has (v20.alloc (.cells #[.int .i64 0, .int .i64 0, .int .i64 0, .int .i64 0, .slice none 0 0] 24)) (v20.heap.size) 24 #[.int .i64 0, .int .i64 0, .int .i64 0, .int .i64 0, .slice none 0 0]) := Lib.hid (Has.made v20 24 #[.int .i64 0, .int .i64 0, .int .i64 0, .int .i64 0, .slice none 0 0])
    obtain ⟨v21, hv21⟩ : ∃ v21, (v20.alloc (.cells #[.int .i64 0, .int .i64 0, .int .i64 0, .int .i64 0, .slice none 0 0] 24)).setRow (v20.heap.size) (lkC r4 A17 c17) = v21 := ⟨_, rfl⟩
    have hy21_ : v20.heap.size + 1 ≤ v21.heap.size := by rw [← hv21]; simp
    have hbw : Below v20.heap.size v20 v21 := by rw [← hv21]; exact (below_row (g := v20.heap.size) (Below.alloc (Below.refl v20.heap.size v20) (Nat.le_refl _) (.cells #[.int .i64 0, .int .i64 0, .int .i64 0, .int .i64 0, .slice none 0 0] 24)) (by omega) (lkC r4 A17 c17))
    have HB41 : Hid (Has v21 (w.heap.size) 24 (lkC l A c) ∧ Has v21 (w.heap.size + 1) 27 #[.int .i64 kd, .int .i64 t, .int .i64 now, .slice B xs.length d] ∧ WsR (fun b => b < w.heap.size) v21 A l.ws.length c l.ws ∧ BodyR (fun b => b < w.heap.size) v21 (.slice B xs.length d) xs ∧ Has v21 (v2.heap.size) 24 (lkC l A2 c2) ∧ WsR (Nw (fun b => b < w.heap.size) v3 wE) v21 A2 l.ws.length c2 l.ws ∧ WsR (Nw (fun b => b < w.heap.size) v19 v20) v21 A17 r4.ws.length c17 r4.ws ∧ LsR (Nw (fun b => b < w.heap.size) v19 v20) v21 B17 ra.length d17 ra ∧ Has v21 (v20.heap.size) 24 (lkC r4 A17 c17) ∧ Below w.heap.size w v21) := Lib.hid ⟨s0.under hbw s0.lt, s1.under hbw s1.lt, s2.under hbw, s3.under hbw, s4.under hbw s4.lt, s5.under hbw, s6.under hbw, s7.under hbw, (by rw [← hv21]; exact (has_row11 (Has.made v20 24 #[.int .i64 0, .int .i64 0, .int .i64 0, .int .i64 0, .slice none 0 0]) (lkC r4 A17 c17))), s8.trans (hbw.mono s8.size)⟩
    clear hbw
    have HWv21 := Lib.hid hv21
    clear s0 s1 s2 s3 s4 s5 s6 s7 s8
    clear hv21 HB40
    go_upto_region 17 with (first | (with_reducible refine wpList_store_rowTo (o := ⟨none, _, _, _, _, _⟩) rfl 24 _ _ rfl rfl (v20.heap.size) (lkC r4 A17 c17) rfl rfl 24 _ (HS0.out).raw11 (by kernel_rfl) (by kernel_rfl) (by kernel_rfl) ?_))
    rw [HWv21.out]
    clear HWv21 HS0
    obtain ⟨s0, s1, s2, s3, s4, s5, s6, s7, s8, s9⟩ := HB41.out
    have k2 : v21.cell? ⟨w.heap.size + 1, 2, none⟩ = some (.int .i64 now) := s1.cell 2
    clear s0 s1 s2 s3 s4 s5 s6 s7 s8 s9
    obtain ⟨s0, s1, s2, s3, s4, s5, s6, s7, s8, s9⟩ := HB41.out
    have HL0 := Lib.hid s4
    have HK := Lib.hid (T2.out (Nw (fun b => b < w.heap.size) v3 wE) v21 A2 c2 s5)
    clear s0 s1 s2 s3 s4 s5 s6 s7 s8 s9
    go_wp2_with (first | (with_reducible refine wpList_load_row (o := ⟨some 124, _, _, _, _, _⟩) rfl 24 _ rfl (v2.heap.size) rfl 24 (lkC l A2 c2) (0, 0) _ (HL0.out).raw11 Try.underlying24 rfl (by kernel_rfl) ?_))
    refine HK.out.mono ?_
    rintro e v22 ⟨A18, c18, B18, d18, rfl, hw_, hl_, hb1⟩
    obtain ⟨s0, s1, s2, s3, s4, s5, s6, s7, s8, s9⟩ := HB41.out
    have hbn : Below v21.heap.size v21 v22 := hb1
    have HB42 : Hid (Has v22 (w.heap.size) 24 (lkC l A c) ∧ Has v22 (w.heap.size + 1) 27 #[.int .i64 kd, .int .i64 t, .int .i64 now, .slice B xs.length d] ∧ WsR (fun b => b < w.heap.size) v22 A l.ws.length c l.ws ∧ BodyR (fun b => b < w.heap.size) v22 (.slice B xs.length d) xs ∧ Has v22 (v2.heap.size) 24 (lkC l A2 c2) ∧ WsR (Nw (fun b => b < w.heap.size) v3 wE) v22 A2 l.ws.length c2 l.ws ∧ WsR (Nw (fun b => b < w.heap.size) v19 v20) v22 A17 r4.ws.length c17 r4.ws ∧ LsR (Nw (fun b => b < w.heap.size) v19 v20) v22 B17 ra.length d17 ra ∧ Has v22 (v20.heap.size) 24 (lkC r4 A17 c17) ∧ Below w.heap.size w v22) := Lib.hid ⟨s0.under hbn s0.lt, s1.under hbn s1.lt, s2.under hbn, s3.under hbn, s4.under hbn s4.lt, s5.under hbn, s6.under hbn, s7.under hbn, s8.under hbn s8.lt, s9.trans (hbn.mono s9.size)⟩
    have hz22_ := hbn.size
    clear s0 s1 s2 s3 s4 s5 s6 s7 s8 s9
    clear HK HB41 HL0 T2 hb1 k2
    clear hbn
    obtain ⟨s0, s1, s2, s3, s4, s5, s6, s7, s8, s9⟩ := HB42.out
    have HB43 : Hid (Has v22 (w.heap.size) 24 (lkC l A c) ∧ Has v22 (w.heap.size + 1) 27 #[.int .i64 kd, .int .i64 t, .int .i64 now, .slice B xs.length d] ∧ WsR (fun b => b < w.heap.size) v22 A l.ws.length c l.ws ∧ BodyR (fun b => b < w.heap.size) v22 (.slice B xs.length d) xs ∧ Has v22 (v2.heap.size) 24 (lkC l A2 c2) ∧ WsR (Nw (fun b => b < w.heap.size) v3 wE) v22 A2 l.ws.length c2 l.ws ∧ WsR (Nw (fun b => b < w.heap.size) v19 v20) v22 A17 r4.ws.length c17 r4.ws ∧ LsR (Nw (fun b => b < w.heap.size) v19 v20) v22 B17 ra.length d17 ra ∧ Has v22 (v20.heap.size) 24 (lkC r4 A17 c17) ∧ WsR (Nw (Nw (fun b => b < w.heap.size) v3 wE) v21 v22) v22 A18 r4.ws.length c18 r4.ws ∧ Below w.heap.size w v22) := Lib.hid ⟨s0, s1, s2, s3, s4, s5, s6, s7, s8, hw_, s9⟩
    clear s0 s1 s2 s3 s4 s5 s6 s7 s8 s9
    clear HB42
    obtain ⟨s0, s1, s2, s3, s4, s5, s6, s7, s8, s9, s10⟩ := HB43.out
    have HB44 : Hid (Has v22 (w.heap.size) 24 (lkC l A c) ∧ Has v22 (w.heap.size + 1) 27 #[.int .i64 kd, .int .i64 t, .int .i64 now, .slice B xs.length d] ∧ WsR (fun b => b < w.heap.size) v22 A l.ws.length c l.ws ∧ BodyR (fun b => b < w.heap.size) v22 (.slice B xs.length d) xs ∧ Has v22 (v2.heap.size) 24 (lkC l A2 c2) ∧ WsR (Nw (fun b => b < w.heap.size) v3 wE) v22 A2 l.ws.length c2 l.ws ∧ WsR (Nw (fun b => b < w.heap.size) v19 v20) v22 A17 r4.ws.length c17 r4.ws ∧ LsR (Nw (fun b => b < w.heap.size) v19 v20) v22 B17 ra.length d17 ra ∧ Has v22 (v20.heap.size) 24 (lkC r4 A17 c17) ∧ WsR (Nw (Nw (fun b => b < w.heap.size) v3 wE) v21 v22) v22 A18 r4.ws.length c18 r4.ws ∧ LsR (Nw (Nw (fun b => b < w.heap.size) v3 wE) v21 v22) v22 B18 ra.length d18 ra ∧ Below w.heap.size w v22) := Lib.hid ⟨s0, s1, s2, s3, s4, s5, s6, s7, s8, s9, hl_, s10⟩
    clear s0 s1 s2 s3 s4 s5 s6 s7 s8 s9 s10
    clear HB43
    clear hw_ hl_
    obtain ⟨s0, s1, s2, s3, s4, s5, s6, s7, s8, s9, s10, s11⟩ := HB44.out
    have lt22_44 : v20.heap.size < v22.heap.size := s8.lt
    have le22_44 : w.heap.size ≤ v22.heap.size := s11.size
    have HS0 : Hid (Has (v22.alloc (.cells #[.int .i64 0, .int .i64 0, .int .i64 0, .int .i64 0, .slice none 0 0] 24)) (v22.heap.size) 24 #[.int .i64 0, .int .i64 0, .int .i64 0, .int .i64 0, .slice none 0 0]) := Lib.hid (Has.made v22 24 #[.int .i64 0, .int .i64 0, .int .i64 0, .int .i64 0, .slice none 0 0])
    obtain ⟨v23, hv23⟩ : ∃ v23, (v22.alloc (.cells #[.int .i64 0, .int .i64 0, .int .i64 0, .int .i64 0, .slice none 0 0] 24)).setRow (v22.heap.size) (lkC r4 A18 c18) = v23 := ⟨_, rfl⟩
    have hy23_ : v22.heap.size + 1 ≤ v23.heap.size := by rw [← hv23]; simp
    have hbw : Below v22.heap.size v22 v23 := by rw [← hv23]; exact (below_row (g := v22.heap.size) (Below.alloc (Below.refl v22.heap.size v22) (Nat.le_refl _) (.cells #[.int .i64 0, .int .i64 0, .int .i64 0, .int .i64 0, .slice none 0 0] 24)) (by omega) (lkC r4 A18 c18))
    have HB45 : Hid (Has v23 (w.heap.size) 24 (lkC l A c) ∧ Has v23 (w.heap.size + 1) 27 #[.int .i64 kd, .int .i64 t, .int .i64 now, .slice B xs.length d] ∧ WsR (fun b => b < w.heap.size) v23 A l.ws.length c l.ws ∧ BodyR (fun b => b < w.heap.size) v23 (.slice B xs.length d) xs ∧ Has v23 (v2.heap.size) 24 (lkC l A2 c2) ∧ WsR (Nw (fun b => b < w.heap.size) v3 wE) v23 A2 l.ws.length c2 l.ws ∧ WsR (Nw (fun b => b < w.heap.size) v19 v20) v23 A17 r4.ws.length c17 r4.ws ∧ LsR (Nw (fun b => b < w.heap.size) v19 v20) v23 B17 ra.length d17 ra ∧ Has v23 (v20.heap.size) 24 (lkC r4 A17 c17) ∧ WsR (Nw (Nw (fun b => b < w.heap.size) v3 wE) v21 v22) v23 A18 r4.ws.length c18 r4.ws ∧ LsR (Nw (Nw (fun b => b < w.heap.size) v3 wE) v21 v22) v23 B18 ra.length d18 ra ∧ Has v23 (v22.heap.size) 24 (lkC r4 A18 c18) ∧ Below w.heap.size w v23) := Lib.hid ⟨s0.under hbw s0.lt, s1.under hbw s1.lt, s2.under hbw, s3.under hbw, s4.under hbw s4.lt, s5.under hbw, s6.under hbw, s7.under hbw, s8.under hbw s8.lt, s9.under hbw, s10.under hbw, (by rw [← hv23]; exact (has_row11 (Has.made v22 24 #[.int .i64 0, .int .i64 0, .int .i64 0, .int .i64 0, .slice none 0 0]) (lkC r4 A18 c18))), s11.trans (hbw.mono s11.size)⟩
    clear hbw
    have HWv23 := Lib.hid hv23
    clear s0 s1 s2 s3 s4 s5 s6 s7 s8 s9 s10 s11
    clear hv23 HB44
    go_upto_region 18 with (first | (with_reducible refine wpList_store_rowTo (o := ⟨none, _, _, _, _, _⟩) rfl 24 _ _ rfl rfl (v22.heap.size) (lkC r4 A18 c18) rfl rfl 24 _ (HS0.out).raw11 (by kernel_rfl) (by kernel_rfl) (by kernel_rfl) ?_))
    rw [HWv23.out]
    clear HWv23 HS0
    obtain ⟨s0, s1, s2, s3, s4, s5, s6, s7, s8, s9, s10, s11, s12⟩ := HB45.out
    have HL0 := Lib.hid s8
    have HL1 := Lib.hid s11
    have HK := Lib.hid (lsame_any r4 r4 true (by simp) A17 c17 A18 c18 v23 s6 s9 (by omega))
    clear s0 s1 s2 s3 s4 s5 s6 s7 s8 s9 s10 s11 s12
    go_wp2_with (first | (with_reducible refine wpList_load_row (o := ⟨some 132, _, _, _, _, _⟩) rfl 24 _ rfl (v20.heap.size) rfl 24 (lkC r4 A17 c17) (0, 0) _ (HL0.out).raw11 Try.underlying24 rfl (by kernel_rfl) ?_) | (with_reducible refine wpList_load_row (o := ⟨some 133, _, _, _, _, _⟩) rfl 24 _ rfl (v22.heap.size) rfl 24 (lkC r4 A18 c18) (0, 0) _ (HL1.out).raw11 Try.underlying24 rfl (by kernel_rfl) ?_))
    refine HK.out.mono ?_
    rintro e v24 ⟨rfl, hb1⟩
    obtain ⟨s0, s1, s2, s3, s4, s5, s6, s7, s8, s9, s10, s11, s12⟩ := HB45.out
    have hbn : Below v23.heap.size v23 v24 := hb1
    have HB46 : Hid (Has v24 (w.heap.size) 24 (lkC l A c) ∧ Has v24 (w.heap.size + 1) 27 #[.int .i64 kd, .int .i64 t, .int .i64 now, .slice B xs.length d] ∧ WsR (fun b => b < w.heap.size) v24 A l.ws.length c l.ws ∧ BodyR (fun b => b < w.heap.size) v24 (.slice B xs.length d) xs ∧ Has v24 (v2.heap.size) 24 (lkC l A2 c2) ∧ WsR (Nw (fun b => b < w.heap.size) v3 wE) v24 A2 l.ws.length c2 l.ws ∧ WsR (Nw (fun b => b < w.heap.size) v19 v20) v24 A17 r4.ws.length c17 r4.ws ∧ LsR (Nw (fun b => b < w.heap.size) v19 v20) v24 B17 ra.length d17 ra ∧ Has v24 (v20.heap.size) 24 (lkC r4 A17 c17) ∧ WsR (Nw (Nw (fun b => b < w.heap.size) v3 wE) v21 v22) v24 A18 r4.ws.length c18 r4.ws ∧ LsR (Nw (Nw (fun b => b < w.heap.size) v3 wE) v21 v22) v24 B18 ra.length d18 ra ∧ Has v24 (v22.heap.size) 24 (lkC r4 A18 c18) ∧ Below w.heap.size w v24) := Lib.hid ⟨s0.under hbn s0.lt, s1.under hbn s1.lt, s2.under hbn, s3.under hbn, s4.under hbn s4.lt, s5.under hbn, s6.under hbn, s7.under hbn, s8.under hbn s8.lt, s9.under hbn, s10.under hbn, s11.under hbn s11.lt, s12.trans (hbn.mono s12.size)⟩
    have hz24_ := hbn.size
    clear s0 s1 s2 s3 s4 s5 s6 s7 s8 s9 s10 s11 s12
    clear HK HB45 HL0 HL1 hb1
    clear hbn
    obtain ⟨s0, s1, s2, s3, s4, s5, s6, s7, s8, s9, s10, s11, s12⟩ := HB46.out
    have HB47 : Hid (Has v24 (w.heap.size) 24 (lkC l A c) ∧ Has v24 (w.heap.size + 1) 27 #[.int .i64 kd, .int .i64 t, .int .i64 now, .slice B xs.length d] ∧ WsR (fun b => b < w.heap.size) v24 A l.ws.length c l.ws ∧ BodyR (fun b => b < w.heap.size) v24 (.slice B xs.length d) xs ∧ Has v24 (v2.heap.size) 24 (lkC l A2 c2) ∧ WsR (Nw (fun b => b < w.heap.size) v3 wE) v24 A2 l.ws.length c2 l.ws ∧ WsR (Nw (fun b => b < w.heap.size) v19 v20) v24 A17 r4.ws.length c17 r4.ws ∧ LsR (Nw (fun b => b < w.heap.size) v19 v20) v24 B17 ra.length d17 ra ∧ Has v24 (v20.heap.size) 24 (lkC r4 A17 c17) ∧ WsR (Nw (Nw (fun b => b < w.heap.size) v3 wE) v21 v22) v24 A18 r4.ws.length c18 r4.ws ∧ LsR (Nw (Nw (fun b => b < w.heap.size) v3 wE) v21 v22) v24 B18 ra.length d18 ra ∧ Below w.heap.size w v24) := Lib.hid ⟨s0, s1, s2, s3, s4, s5, s6, s7, s8, s9, s10, s12⟩
    clear s0 s1 s2 s3 s4 s5 s6 s7 s8 s9 s10 s11 s12
    clear HB46
    obtain ⟨s0, s1, s2, s3, s4, s5, s6, s7, s8, s9, s10, s11⟩ := HB47.out
    have HB48 : Hid (Has v24 (w.heap.size) 24 (lkC l A c) ∧ Has v24 (w.heap.size + 1) 27 #[.int .i64 kd, .int .i64 t, .int .i64 now, .slice B xs.length d] ∧ WsR (fun b => b < w.heap.size) v24 A l.ws.length c l.ws ∧ BodyR (fun b => b < w.heap.size) v24 (.slice B xs.length d) xs ∧ Has v24 (v2.heap.size) 24 (lkC l A2 c2) ∧ WsR (Nw (fun b => b < w.heap.size) v3 wE) v24 A2 l.ws.length c2 l.ws ∧ WsR (Nw (fun b => b < w.heap.size) v19 v20) v24 A17 r4.ws.length c17 r4.ws ∧ LsR (Nw (fun b => b < w.heap.size) v19 v20) v24 B17 ra.length d17 ra ∧ Has v24 (v20.heap.size) 24 (lkC r4 A17 c17) ∧ LsR (Nw (Nw (fun b => b < w.heap.size) v3 wE) v21 v22) v24 B18 ra.length d18 ra ∧ Below w.heap.size w v24) := Lib.hid ⟨s0, s1, s2, s3, s4, s5, s6, s7, s8, s10, s11⟩
    clear s0 s1 s2 s3 s4 s5 s6 s7 s8 s9 s10 s11
    clear HB47
    obtain ⟨s0, s1, s2, s3, s4, s5, s6, s7, s8, s9, s10⟩ := HB48.out
    have HB49 : Hid (Has v24 (w.heap.size) 24 (lkC l A c) ∧ Has v24 (w.heap.size + 1) 27 #[.int .i64 kd, .int .i64 t, .int .i64 now, .slice B xs.length d] ∧ WsR (fun b => b < w.heap.size) v24 A l.ws.length c l.ws ∧ BodyR (fun b => b < w.heap.size) v24 (.slice B xs.length d) xs ∧ Has v24 (v2.heap.size) 24 (lkC l A2 c2) ∧ WsR (Nw (fun b => b < w.heap.size) v3 wE) v24 A2 l.ws.length c2 l.ws ∧ WsR (Nw (fun b => b < w.heap.size) v19 v20) v24 A17 r4.ws.length c17 r4.ws ∧ LsR (Nw (fun b => b < w.heap.size) v19 v20) v24 B17 ra.length d17 ra ∧ LsR (Nw (Nw (fun b => b < w.heap.size) v3 wE) v21 v22) v24 B18 ra.length d18 ra ∧ Below w.heap.size w v24) := Lib.hid ⟨s0, s1, s2, s3, s4, s5, s6, s7, s9, s10⟩
    clear s0 s1 s2 s3 s4 s5 s6 s7 s8 s9 s10
    clear HB48
    obtain ⟨s0, s1, s2, s3, s4, s5, s6, s7, s8, s9⟩ := HB49.out
    have HB50 : Hid (Has v24 (w.heap.size) 24 (lkC l A c) ∧ Has v24 (w.heap.size + 1) 27 #[.int .i64 kd, .int .i64 t, .int .i64 now, .slice B xs.length d] ∧ WsR (fun b => b < w.heap.size) v24 A l.ws.length c l.ws ∧ BodyR (fun b => b < w.heap.size) v24 (.slice B xs.length d) xs ∧ Has v24 (v2.heap.size) 24 (lkC l A2 c2) ∧ WsR (Nw (fun b => b < w.heap.size) v3 wE) v24 A2 l.ws.length c2 l.ws ∧ LsR (Nw (fun b => b < w.heap.size) v19 v20) v24 B17 ra.length d17 ra ∧ LsR (Nw (Nw (fun b => b < w.heap.size) v3 wE) v21 v22) v24 B18 ra.length d18 ra ∧ Below w.heap.size w v24) := Lib.hid ⟨s0, s1, s2, s3, s4, s5, s7, s8, s9⟩
    clear s0 s1 s2 s3 s4 s5 s6 s7 s8 s9
    clear HB49
    obtain ⟨s0, s1, s2, s3, s4, s5, s6, s7, s8⟩ := HB50.out
    have HK := Lib.hid (llists_any ra ra true (by simp) B17 d17 B18 d18 v24 s6 s7 (by omega))
    clear s0 s1 s2 s3 s4 s5 s6 s7 s8
    go_wp2_with fail
    refine HK.out.mono ?_
    rintro e v25 ⟨rfl, hb1⟩
    obtain ⟨s0, s1, s2, s3, s4, s5, s6, s7, s8⟩ := HB50.out
    have hbn : Below v24.heap.size v24 v25 := hb1
    have HB51 : Hid (Has v25 (w.heap.size) 24 (lkC l A c) ∧ Has v25 (w.heap.size + 1) 27 #[.int .i64 kd, .int .i64 t, .int .i64 now, .slice B xs.length d] ∧ WsR (fun b => b < w.heap.size) v25 A l.ws.length c l.ws ∧ BodyR (fun b => b < w.heap.size) v25 (.slice B xs.length d) xs ∧ Has v25 (v2.heap.size) 24 (lkC l A2 c2) ∧ WsR (Nw (fun b => b < w.heap.size) v3 wE) v25 A2 l.ws.length c2 l.ws ∧ LsR (Nw (fun b => b < w.heap.size) v19 v20) v25 B17 ra.length d17 ra ∧ LsR (Nw (Nw (fun b => b < w.heap.size) v3 wE) v21 v22) v25 B18 ra.length d18 ra ∧ Below w.heap.size w v25) := Lib.hid ⟨s0.under hbn s0.lt, s1.under hbn s1.lt, s2.under hbn, s3.under hbn, s4.under hbn s4.lt, s5.under hbn, s6.under hbn, s7.under hbn, s8.trans (hbn.mono s8.size)⟩
    have hz25_ := hbn.size
    clear s0 s1 s2 s3 s4 s5 s6 s7 s8
    clear HK HB50 hb1
    clear hbn
    obtain ⟨s0, s1, s2, s3, s4, s5, s6, s7, s8⟩ := HB51.out
    have HB52 : Hid (Has v25 (w.heap.size) 24 (lkC l A c) ∧ Has v25 (w.heap.size + 1) 27 #[.int .i64 kd, .int .i64 t, .int .i64 now, .slice B xs.length d] ∧ WsR (fun b => b < w.heap.size) v25 A l.ws.length c l.ws ∧ BodyR (fun b => b < w.heap.size) v25 (.slice B xs.length d) xs ∧ Has v25 (v2.heap.size) 24 (lkC l A2 c2) ∧ WsR (Nw (fun b => b < w.heap.size) v3 wE) v25 A2 l.ws.length c2 l.ws ∧ LsR (Nw (fun b => b < w.heap.size) v19 v20) v25 B17 ra.length d17 ra ∧ Below w.heap.size w v25) := Lib.hid ⟨s0, s1, s2, s3, s4, s5, s6, s8⟩
    clear s0 s1 s2 s3 s4 s5 s6 s7 s8
    clear HB51
    obtain ⟨s0, s1, s2, s3, s4, s5, s6, s7⟩ := HB52.out
    have HB53 : Hid (Has v25 (w.heap.size) 24 (lkC l A c) ∧ Has v25 (w.heap.size + 1) 27 #[.int .i64 kd, .int .i64 t, .int .i64 now, .slice B xs.length d] ∧ WsR (fun b => b < w.heap.size) v25 A l.ws.length c l.ws ∧ BodyR (fun b => b < w.heap.size) v25 (.slice B xs.length d) xs ∧ Has v25 (v2.heap.size) 24 (lkC l A2 c2) ∧ WsR (Nw (fun b => b < w.heap.size) v3 wE) v25 A2 l.ws.length c2 l.ws ∧ Below w.heap.size w v25) := Lib.hid ⟨s0, s1, s2, s3, s4, s5, s7⟩
    clear s0 s1 s2 s3 s4 s5 s6 s7
    clear HB52
    obtain ⟨s0, s1, s2, s3, s4, s5, s6⟩ := HB53.out
    have HL0 := Lib.hid s0
    have HL1 := Lib.hid s4
    have HK := Lib.hid (lsame_any l l true (by simp) A c A2 c2 v25 s2 s5 (by omega))
    clear s0 s1 s2 s3 s4 s5 s6
    go_wp2_with (first | (with_reducible refine wpList_load_row (o := ⟨some 138, _, _, _, _, _⟩) rfl 24 _ rfl (w.heap.size) rfl 24 (lkC l A c) (0, 0) _ (HL0.out).raw11 Try.underlying24 rfl (by kernel_rfl) ?_) | (with_reducible refine wpList_load_row (o := ⟨some 139, _, _, _, _, _⟩) rfl 24 _ rfl (v2.heap.size) rfl 24 (lkC l A2 c2) (0, 0) _ (HL1.out).raw11 Try.underlying24 rfl (by kernel_rfl) ?_))
    refine HK.out.mono ?_
    rintro e v26 ⟨rfl, hb1⟩
    obtain ⟨s0, s1, s2, s3, s4, s5, s6⟩ := HB53.out
    have hbn : Below v25.heap.size v25 v26 := hb1
    have HB54 : Hid (Has v26 (w.heap.size) 24 (lkC l A c) ∧ Has v26 (w.heap.size + 1) 27 #[.int .i64 kd, .int .i64 t, .int .i64 now, .slice B xs.length d] ∧ WsR (fun b => b < w.heap.size) v26 A l.ws.length c l.ws ∧ BodyR (fun b => b < w.heap.size) v26 (.slice B xs.length d) xs ∧ Has v26 (v2.heap.size) 24 (lkC l A2 c2) ∧ WsR (Nw (fun b => b < w.heap.size) v3 wE) v26 A2 l.ws.length c2 l.ws ∧ Below w.heap.size w v26) := Lib.hid ⟨s0.under hbn s0.lt, s1.under hbn s1.lt, s2.under hbn, s3.under hbn, s4.under hbn s4.lt, s5.under hbn, s6.trans (hbn.mono s6.size)⟩
    have hz26_ := hbn.size
    clear s0 s1 s2 s3 s4 s5 s6
    clear HK HB53 HL0 HL1 hb1
    clear hbn
    go_upto_region 21 with fail
    go_cut [4] (fun sx wx => sx = .bool true ∧ Has wx (w.heap.size) 24 (lkC l A c) ∧ Has wx (v2.heap.size) 24 (lkC l A2 c2) ∧ WsR (fun b => b < w.heap.size) wx A l.ws.length c l.ws ∧ WsR (Nw (fun b => b < w.heap.size) v3 wE) wx A2 l.ws.length c2 l.ws ∧ Below w.heap.size w wx)
    case first =>
      obtain ⟨s0, s1, s2, s3, s4, s5, s6⟩ := HB54.out
      refine wp_region_held_drew (S := (fun W_ => Has W_ (w.heap.size) 24 (lkC l A c) ∧ Has W_ (v2.heap.size) 24 (lkC l A2 c2) ∧ WsR (fun b => b < w.heap.size) W_ A l.ws.length c l.ws ∧ WsR (Nw (fun b => b < w.heap.size) v3 wE) W_ A2 l.ws.length c2 l.ws ∧ Below w.heap.size w W_)) (by kernel_rfl) ?_ (fun hHeld => ?_)
      · exact ⟨s0.draw, s4.draw, s2.under (below_dr11 (Below.refl _ _)), s5.under (below_dr11 (Below.refl _ _)), below_dr11 s6⟩
      clear s0 s1 s2 s3 s4 s5 s6
      refine wpAnyH_take (i := 0) (oi := ⟨some 141, _, _, _, _, _⟩) (v := ?_) rfl (by kernel_rfl) (by kernel_rfl) (by kernel_rfl) (fun _ _ _ h => h) (Or.inl ⟨by rfl, ?_⟩) (by assumption) ?_
      rotate_left
      · intro w_ hSw; (try dsimp only at hSw); go_simp <;> with_reducible rfl
      simp only [Act.put, List.setIfInBounds_toArray, List.set_cons_zero, List.set_cons_succ]
      refine wpAnyH_take (i := 1) (oi := ⟨some 142, _, _, _, _, _⟩) (v := ?_) rfl (by kernel_rfl) (by kernel_rfl) (by kernel_rfl) (fun _ _ _ h => h) (Or.inl ⟨by rfl, ?_⟩) (by assumption) ?_
      rotate_left
      · intro w_ hSw; (try dsimp only at hSw); go_simp <;> with_reducible rfl
      simp only [Act.put, List.setIfInBounds_toArray, List.set_cons_zero, List.set_cons_succ]
      refine wpAnyH_take (i := 2) (oi := ⟨some 143, _, _, _, _, _⟩) (v := ?_) rfl (by kernel_rfl) (by kernel_rfl) (by kernel_rfl) (fun _ _ _ h => h) (Or.inl ⟨by rfl, ?_⟩) (by assumption) ?_
      rotate_left
      · intro w_ hSw; (try dsimp only at hSw); go_simp <;> with_reducible rfl
      simp only [Act.put, List.setIfInBounds_toArray, List.set_cons_zero, List.set_cons_succ]
      refine wpAnyH_take (i := 3) (oi := ⟨some 144, _, _, _, _, _⟩) (v := ?_) rfl (by kernel_rfl) (by kernel_rfl) (by kernel_rfl) (fun _ _ _ h => h) (Or.inl ⟨by rfl, ?_⟩) (by assumption) ?_
      rotate_left
      · intro w_ hSw; (try dsimp only at hSw); go_simp <;> with_reducible rfl
      simp only [Act.put, List.setIfInBounds_toArray, List.set_cons_zero, List.set_cons_succ]
      refine wpAnyH_take (i := 4) (oi := ⟨some 145, _, _, _, _, _⟩) (v := ?_) rfl (by kernel_rfl) (by kernel_rfl) (by kernel_rfl) (fun _ _ _ h => h) (Or.inl ⟨by rfl, ?_⟩) (by assumption) ?_
      rotate_left
      · intro w_ hSw; (try dsimp only at hSw); go_simp <;> with_reducible rfl
      simp only [Act.put, List.setIfInBounds_toArray, List.set_cons_zero, List.set_cons_succ]
      refine wpAnyH_take (i := 5) (oi := ⟨some 146, _, _, _, _, _⟩) (v := ?_) rfl (by kernel_rfl) (by kernel_rfl) (by kernel_rfl) (fun _ _ _ h => h) (Or.inl ⟨by rfl, ?_⟩) (by assumption) ?_
      rotate_left
      · intro w_ hSw; (try dsimp only at hSw); go_simp <;> with_reducible rfl
      simp only [Act.put, List.setIfInBounds_toArray, List.set_cons_zero, List.set_cons_succ]
      refine wpAnyH_take (i := 6) (oi := ⟨some 147, _, _, _, _, _⟩) (v := ?_) rfl (by kernel_rfl) (by kernel_rfl) (by kernel_rfl) (fun _ _ _ h => h) (Or.inl ⟨by rfl, ?_⟩) (by assumption) ?_
      rotate_left
      · intro w_ hSw; (try dsimp only at hSw); go_simp <;> with_reducible rfl
      simp only [Act.put, List.setIfInBounds_toArray, List.set_cons_zero, List.set_cons_succ]
      refine wpAnyH_take (i := 7) (oi := ⟨some 148, _, _, _, _, _⟩) (v := ?_) rfl (by kernel_rfl) (by kernel_rfl) (by kernel_rfl) (fun _ _ _ h => h) (Or.inl ⟨by rfl, ?_⟩) (by assumption) ?_
      rotate_left
      · intro w_ hSw; (try dsimp only at hSw); go_simp <;> with_reducible rfl
      simp only [Act.put, List.setIfInBounds_toArray, List.set_cons_zero, List.set_cons_succ]
      refine wpAnyH_take (i := 8) (oi := ⟨some 149, _, _, _, _, _⟩) (v := ?_) rfl (by kernel_rfl) (by kernel_rfl) (by kernel_rfl) (fun _ _ _ h => h) (Or.inl ⟨by rfl, ?_⟩) (by assumption) ?_
      rotate_left
      · intro w_ hSw; (try dsimp only at hSw); go_simp <;> with_reducible rfl
      simp only [Act.put, List.setIfInBounds_toArray, List.set_cons_zero, List.set_cons_succ]
      refine wpAnyH_take (i := 9) (oi := ⟨some 150, _, _, _, _, _⟩) (v := ?_) rfl (by kernel_rfl) (by kernel_rfl) (by kernel_rfl) (fun _ _ _ h => h) (Or.inl ⟨by rfl, ?_⟩) (by assumption) ?_
      rotate_left
      · intro w_ hSw; (try dsimp only at hSw); go_simp <;> with_reducible rfl
      simp only [Act.put, List.setIfInBounds_toArray, List.set_cons_zero, List.set_cons_succ]
      refine wpAnyH_take (i := 10) (oi := ⟨some 151, _, _, _, _, _⟩) (v := ?_) rfl (by kernel_rfl) (by kernel_rfl) (by kernel_rfl) (fun _ _ _ h => h) (Or.inl ⟨by rfl, ?_⟩) (by assumption) ?_
      rotate_left
      · intro w_ hSw; (try dsimp only at hSw); go_simp <;> with_reducible rfl
      simp only [Act.put, List.setIfInBounds_toArray, List.set_cons_zero, List.set_cons_succ]
      refine wpAnyH_take (i := 11) (oi := ⟨some 152, _, _, _, _, _⟩) (v := ?_) rfl (by kernel_rfl) (by kernel_rfl) (by kernel_rfl) (fun _ _ _ h => h) (Or.inl ⟨by rfl, ?_⟩) (by assumption) ?_
      rotate_left
      · intro w_ hSw; (try dsimp only at hSw); go_simp <;> with_reducible rfl
      simp only [Act.put, List.setIfInBounds_toArray, List.set_cons_zero, List.set_cons_succ]
      refine wpAnyH_take (i := 12) (oi := ⟨some 153, _, _, _, _, _⟩) (v := ?_) rfl (by kernel_rfl) (by kernel_rfl) (by kernel_rfl) (fun _ _ _ h => h) (Or.inl ⟨by rfl, ?_⟩) (by assumption) ?_
      rotate_left
      · intro w_ hSw; (try dsimp only at hSw); go_simp <;> with_reducible rfl
      simp only [Act.put, List.setIfInBounds_toArray, List.set_cons_zero, List.set_cons_succ]
      refine wpAnyH_take (i := 13) (oi := ⟨some 154, _, _, _, _, _⟩) (v := ?_) rfl (by kernel_rfl) (by kernel_rfl) (by kernel_rfl) (fun _ _ _ h => h) (Or.inl ⟨by rfl, ?_⟩) (by assumption) ?_
      rotate_left
      · intro w_ hSw; (try dsimp only at hSw); go_simp <;> with_reducible rfl
      simp only [Act.put, List.setIfInBounds_toArray, List.set_cons_zero, List.set_cons_succ]
      refine wpAnyH_take (i := 14) (oi := ⟨some 155, _, _, _, _, _⟩) (v := ?_) rfl (by kernel_rfl) (by kernel_rfl) (by kernel_rfl) (fun _ _ _ h => h) (Or.inl ⟨by rfl, ?_⟩) (by assumption) ?_
      rotate_left
      · intro w_ hSw; (try dsimp only at hSw); go_simp <;> with_reducible rfl
      simp only [Act.put, List.setIfInBounds_toArray, List.set_cons_zero, List.set_cons_succ]
      refine wpAnyH_take (i := 15) (oi := ⟨some 156, _, _, _, _, _⟩) (v := ?_) rfl (by kernel_rfl) (by kernel_rfl) (by kernel_rfl) (fun _ _ _ h => h) (Or.inl ⟨by rfl, ?_⟩) (by assumption) ?_
      rotate_left
      · intro w_ hSw; (try dsimp only at hSw); go_simp <;> with_reducible rfl
      simp only [Act.put, List.setIfInBounds_toArray, List.set_cons_zero, List.set_cons_succ]
      refine wpAnyH_take (i := 16) (oi := ⟨some 157, _, _, _, _, _⟩) (v := ?_) rfl (by kernel_rfl) (by kernel_rfl) (by kernel_rfl) (fun _ _ _ h => h) (Or.inl ⟨by rfl, ?_⟩) (by assumption) ?_
      rotate_left
      · intro w_ hSw; (try dsimp only at hSw); go_simp <;> with_reducible rfl
      simp only [Act.put, List.setIfInBounds_toArray, List.set_cons_zero, List.set_cons_succ]
      refine wpAnyH_take (i := 17) (oi := ⟨some 158, _, _, _, _, _⟩) (v := ?_) rfl (by kernel_rfl) (by kernel_rfl) (by kernel_rfl) (fun _ _ _ h => h) (Or.inl ⟨by rfl, ?_⟩) (by assumption) ?_
      rotate_left
      · intro w_ hSw; (try dsimp only at hSw); go_simp <;> with_reducible rfl
      simp only [Act.put, List.setIfInBounds_toArray, List.set_cons_zero, List.set_cons_succ]
      refine wpAnyH_take (i := 18) (oi := ⟨some 159, _, _, _, _, _⟩) (v := ?_) rfl (by kernel_rfl) (by kernel_rfl) (by kernel_rfl) (fun _ _ _ h => h) (Or.inl ⟨by rfl, ?_⟩) (by assumption) ?_
      rotate_left
      · intro w_ hSw; (try dsimp only at hSw); go_simp <;> with_reducible rfl
      simp only [Act.put, List.setIfInBounds_toArray, List.set_cons_zero, List.set_cons_succ]
      refine wpAnyH_take (i := 19) (oi := ⟨some 160, _, _, _, _, _⟩) (v := ?_) rfl (by kernel_rfl) (by kernel_rfl) (by kernel_rfl) (fun _ _ _ h => h) (Or.inl ⟨by rfl, ?_⟩) (by assumption) ?_
      rotate_left
      · intro w_ hSw; (try dsimp only at hSw); go_simp <;> with_reducible rfl
      simp only [Act.put, List.setIfInBounds_toArray, List.set_cons_zero, List.set_cons_succ]
      refine wpAnyH_take (i := 20) (oi := ⟨some 161, _, _, _, _, _⟩) (v := ?_) rfl (by kernel_rfl) (by kernel_rfl) (by kernel_rfl) (fun _ _ _ h => h) (Or.inl ⟨by rfl, ?_⟩) (by assumption) ?_
      rotate_left
      · intro w_ hSw; (try dsimp only at hSw); go_simp <;> with_reducible rfl
      simp only [Act.put, List.setIfInBounds_toArray, List.set_cons_zero, List.set_cons_succ]
      refine wpAnyH_take (i := 21) (oi := ⟨some 162, _, _, _, _, _⟩) (v := ?_) rfl (by kernel_rfl) (by kernel_rfl) (by kernel_rfl) (fun _ _ _ h => h) (Or.inl ⟨by rfl, ?_⟩) (by assumption) ?_
      rotate_left
      · intro w_ hSw; (try dsimp only at hSw); go_simp <;> with_reducible rfl
      simp only [Act.put, List.setIfInBounds_toArray, List.set_cons_zero, List.set_cons_succ]
      refine wpAnyH_take (i := 22) (oi := ⟨some 163, _, _, _, _, _⟩) (v := ?_) rfl (by kernel_rfl) (by kernel_rfl) (by kernel_rfl) (fun _ _ _ h => h) (Or.inl ⟨by rfl, ?_⟩) (by assumption) ?_
      rotate_left
      · intro w_ hSw; (try dsimp only at hSw); go_simp <;> with_reducible rfl
      simp only [Act.put, List.setIfInBounds_toArray, List.set_cons_zero, List.set_cons_succ]
      refine wpAnyH_take (i := 23) (oi := ⟨some 164, _, _, _, _, _⟩) (v := ?_) rfl (by kernel_rfl) (by kernel_rfl) (by kernel_rfl) (fun _ _ _ h => h) (Or.inl ⟨by rfl, ?_⟩) (by assumption) ?_
      rotate_left
      · intro w_ hSw; (try dsimp only at hSw); go_simp <;> with_reducible rfl
      simp only [Act.put, List.setIfInBounds_toArray, List.set_cons_zero, List.set_cons_succ]
      refine wpAnyH_take (i := 24) (oi := ⟨some 165, _, _, _, _, _⟩) (v := ?_) rfl (by kernel_rfl) (by kernel_rfl) (by kernel_rfl) (fun _ _ _ h => h) (Or.inl ⟨by rfl, ?_⟩) (by assumption) ?_
      rotate_left
      · intro w_ hSw; (try dsimp only at hSw); go_simp <;> with_reducible rfl
      simp only [Act.put, List.setIfInBounds_toArray, List.set_cons_zero, List.set_cons_succ]
      refine wpAnyH_take (i := 25) (oi := ⟨some 166, _, _, _, _, _⟩) (v := ?_) rfl (by kernel_rfl) (by kernel_rfl) (by kernel_rfl) (fun _ _ _ h => h) (Or.inl ⟨by rfl, ?_⟩) (by assumption) ?_
      rotate_left
      · intro w_ hSw; (try dsimp only at hSw); go_simp <;> with_reducible rfl
      simp only [Act.put, List.setIfInBounds_toArray, List.set_cons_zero, List.set_cons_succ]
      refine wpAnyH_take (i := 26) (oi := ⟨some 167, _, _, _, _, _⟩) (v := ?_) rfl (by kernel_rfl) (by kernel_rfl) (by kernel_rfl) (fun _ _ _ h => h) (Or.inl ⟨by rfl, ?_⟩) (by assumption) ?_
      rotate_left
      · intro w_ hSw; (try dsimp only at hSw); go_simp <;> with_reducible rfl
      simp only [Act.put, List.setIfInBounds_toArray, List.set_cons_zero, List.set_cons_succ]
      refine wpAnyH_take (i := 27) (oi := ⟨some 168, _, _, _, _, _⟩) (v := ?_) rfl (by kernel_rfl) (by kernel_rfl) (by kernel_rfl) (fun _ _ _ h => h) (Or.inl ⟨by rfl, ?_⟩) (by assumption) ?_
      rotate_left
      · intro w_ hSw; (try dsimp only at hSw); go_simp <;> with_reducible rfl
      simp only [Act.put, List.setIfInBounds_toArray, List.set_cons_zero, List.set_cons_succ]
      refine wpAnyH_take (i := 28) (oi := ⟨some 169, _, _, _, _, _⟩) (v := ?_) rfl (by kernel_rfl) (by kernel_rfl) (by kernel_rfl) (fun _ _ _ h => h) (Or.inl ⟨by rfl, ?_⟩) (by assumption) ?_
      rotate_left
      · intro w_ hSw; (try dsimp only at hSw); go_simp <;> with_reducible rfl
      simp only [Act.put, List.setIfInBounds_toArray, List.set_cons_zero, List.set_cons_succ]
      refine wpAnyH_take (i := 29) (oi := ⟨some 170, _, _, _, _, _⟩) (v := ?_) rfl (by kernel_rfl) (by kernel_rfl) (by kernel_rfl) (fun _ _ _ h => h) (Or.inl ⟨by rfl, ?_⟩) (by assumption) ?_
      rotate_left
      · intro w_ hSw; (try dsimp only at hSw); go_simp <;> with_reducible rfl
      simp only [Act.put, List.setIfInBounds_toArray, List.set_cons_zero, List.set_cons_succ]
      refine wpAnyH_take (i := 30) (oi := ⟨some 171, _, _, _, _, _⟩) (v := ?_) rfl (by kernel_rfl) (by kernel_rfl) (by kernel_rfl) (fun _ _ _ h => h) (Or.inl ⟨by rfl, ?_⟩) (by assumption) ?_
      rotate_left
      · intro w_ hSw; (try dsimp only at hSw); go_simp <;> with_reducible rfl
      simp only [Act.put, List.setIfInBounds_toArray, List.set_cons_zero, List.set_cons_succ]
      refine wpAnyH_take (i := 31) (oi := ⟨some 172, _, _, _, _, _⟩) (v := ?_) rfl (by kernel_rfl) (by kernel_rfl) (by kernel_rfl) (fun _ _ _ h => h) (Or.inl ⟨by rfl, ?_⟩) (by assumption) ?_
      rotate_left
      · intro w_ hSw; (try dsimp only at hSw); go_simp <;> with_reducible rfl
      simp only [Act.put, List.setIfInBounds_toArray, List.set_cons_zero, List.set_cons_succ]
      refine wpAnyH_take (i := 32) (oi := ⟨some 173, _, _, _, _, _⟩) (v := ?_) rfl (by kernel_rfl) (by kernel_rfl) (by kernel_rfl) (fun _ _ _ h => h) (Or.inl ⟨by rfl, ?_⟩) (by assumption) ?_
      rotate_left
      · intro w_ hSw; (try dsimp only at hSw); go_simp <;> with_reducible rfl
      simp only [Act.put, List.setIfInBounds_toArray, List.set_cons_zero, List.set_cons_succ]
      refine wpAnyH_take (i := 33) (oi := ⟨some 174, _, _, _, _, _⟩) (v := ?_) rfl (by kernel_rfl) (by kernel_rfl) (by kernel_rfl) (fun _ _ _ h => h) (Or.inl ⟨by rfl, ?_⟩) (by assumption) ?_
      rotate_left
      · intro w_ hSw; (try dsimp only at hSw); go_simp <;> with_reducible rfl
      simp only [Act.put, List.setIfInBounds_toArray, List.set_cons_zero, List.set_cons_succ]
      refine wpAnyH_take (i := 34) (oi := ⟨some 175, _, _, _, _, _⟩) (v := ?_) rfl (by kernel_rfl) (by kernel_rfl) (by kernel_rfl) (fun _ _ _ h => h) (Or.inl ⟨by rfl, ?_⟩) (by assumption) ?_
      rotate_left
      · intro w_ hSw; (try dsimp only at hSw); go_simp <;> with_reducible rfl
      simp only [Act.put, List.setIfInBounds_toArray, List.set_cons_zero, List.set_cons_succ]
      refine wpAnyH_take (i := 35) (oi := ⟨some 176, _, _, _, _, _⟩) (v := ?_) rfl (by kernel_rfl) (by kernel_rfl) (by kernel_rfl) (fun _ _ _ h => h) (Or.inl ⟨by rfl, ?_⟩) (by assumption) ?_
      rotate_left
      · intro w_ hSw; (try dsimp only at hSw); go_simp <;> with_reducible rfl
      simp only [Act.put, List.setIfInBounds_toArray, List.set_cons_zero, List.set_cons_succ]
      refine wpAnyH_take (i := 36) (oi := ⟨some 177, _, _, _, _, _⟩) (v := ?_) rfl (by kernel_rfl) (by kernel_rfl) (by kernel_rfl) (fun _ _ _ h => h) (Or.inl ⟨by rfl, ?_⟩) (by assumption) ?_
      rotate_left
      · intro w_ hSw; (try dsimp only at hSw); go_simp <;> with_reducible rfl
      simp only [Act.put, List.setIfInBounds_toArray, List.set_cons_zero, List.set_cons_succ]
      refine wpAnyH_take (i := 37) (oi := ⟨some 178, _, _, _, _, _⟩) (v := ?_) rfl (by kernel_rfl) (by kernel_rfl) (by kernel_rfl) (fun _ _ _ h => h) (Or.inl ⟨by rfl, ?_⟩) (by assumption) ?_
      rotate_left
      · intro w_ hSw; (try dsimp only at hSw); go_simp <;> with_reducible rfl
      simp only [Act.put, List.setIfInBounds_toArray, List.set_cons_zero, List.set_cons_succ]
      refine wpAnyH_take (i := 38) (oi := ⟨some 179, _, _, _, _, _⟩) (v := ?_) rfl (by kernel_rfl) (by kernel_rfl) (by kernel_rfl) (fun _ _ _ h => h) (Or.inl ⟨by rfl, ?_⟩) (by assumption) ?_
      rotate_left
      · intro w_ hSw; (try dsimp only at hSw); go_simp <;> with_reducible rfl
      simp only [Act.put, List.setIfInBounds_toArray, List.set_cons_zero, List.set_cons_succ]
      refine wpAnyH_take (i := 39) (oi := ⟨some 180, _, _, _, _, _⟩) (v := ?_) rfl (by kernel_rfl) (by kernel_rfl) (by kernel_rfl) (fun _ _ _ h => h) (Or.inl ⟨by rfl, ?_⟩) (by assumption) ?_
      rotate_left
      · intro w_ hSw; (try dsimp only at hSw); go_simp <;> with_reducible rfl
      simp only [Act.put, List.setIfInBounds_toArray, List.set_cons_zero, List.set_cons_succ]
      refine wpAnyH_take (i := 40) (oi := ⟨some 181, _, _, _, _, _⟩) (v := ?_) rfl (by kernel_rfl) (by kernel_rfl) (by kernel_rfl) (fun _ _ _ h => h) (Or.inl ⟨by rfl, ?_⟩) (by assumption) ?_
      rotate_left
      · intro w_ hSw; (try dsimp only at hSw); go_simp <;> with_reducible rfl
      simp only [Act.put, List.setIfInBounds_toArray, List.set_cons_zero, List.set_cons_succ]
      refine wpAnyH_take (i := 41) (oi := ⟨some 182, _, _, _, _, _⟩) (v := ?_) rfl (by kernel_rfl) (by kernel_rfl) (by kernel_rfl) (fun _ _ _ h => h) (Or.inl ⟨by rfl, ?_⟩) (by assumption) ?_
      rotate_left
      · intro w_ hSw; (try dsimp only at hSw); go_simp <;> with_reducible rfl
      simp only [Act.put, List.setIfInBounds_toArray, List.set_cons_zero, List.set_cons_succ]
      refine wpAnyH_take (i := 42) (oi := ⟨some 183, _, _, _, _, _⟩) (v := .agg (lkC l A c)) rfl (by kernel_rfl) (by kernel_rfl) (by kernel_rfl) (fun _ _ _ h => h) (yields_load_row11 24 _ rfl (w.heap.size) rfl 24 (lkC l A c) _ (fun _ ⟨h_, _, _, _, _⟩ => h_) Try.underlying24 rfl (by kernel_rfl) (by rfl)) (by assumption) ?_
      simp only [Act.put, List.setIfInBounds_toArray, List.set_cons_zero, List.set_cons_succ]
      refine wpAnyH_take (i := 44) (oi := ⟨some 185, _, _, _, _, _⟩) (v := .agg (lkC l A2 c2)) rfl (by kernel_rfl) (by kernel_rfl) (by kernel_rfl) (fun _ _ _ h => h) (yields_load_row11 24 _ rfl (v2.heap.size) rfl 24 (lkC l A2 c2) _ (fun _ ⟨_, h_, _, _, _⟩ => h_) Try.underlying24 rfl (by kernel_rfl) (by rfl)) (by assumption) ?_
      simp only [Act.put, List.setIfInBounds_toArray, List.set_cons_zero, List.set_cons_succ]
      refine wpAnyH_ready (rs := [43]) (by kernel_rfl) (by simp) ?_
      refine AllReadyH.cons (o := ⟨some 184, _, _, _, _, _⟩) rfl (fun K hK => ?_) ?_
      · go_simp
        obtain ⟨s0, s1, s2, s3, s4⟩ := hHeld
        refine (M1.out _ _ _ _ s2).mono ?_
        rintro e vs ⟨rfl, hbs⟩
        go_wp2_with fail
        refine hK.out _ _ ?_ (fun hHeld => ?_)
        · exact ⟨s0.under hbs s0.lt, s1.under hbs s1.lt, s2.under hbs, s3.under hbs, s4.trans (hbs.mono s4.size)⟩
        clear hK K s0 s1 s2 s3 s4
        try simp only [Act.put, List.setIfInBounds_toArray, List.set_cons_zero, List.set_cons_succ]
        refine wpAnyH_ready (rs := [45]) (by kernel_rfl) (by simp) ?_
        refine AllReadyH.cons (o := ⟨some 186, _, _, _, _, _⟩) rfl (fun K hK => ?_) ?_
        · go_simp
          obtain ⟨s0, s1, s2, s3, s4⟩ := hHeld
          refine (M2.out _ _ _ _ s3).mono ?_
          rintro e vs ⟨rfl, hbs⟩
          go_wp2_with fail
          refine hK.out _ _ ?_ (fun hHeld => ?_)
          · exact ⟨s0.under hbs s0.lt, s1.under hbs s1.lt, s2.under hbs, s3.under hbs, s4.trans (hbs.mono s4.size)⟩
          clear hK K s0 s1 s2 s3 s4
          try simp only [Act.put, List.setIfInBounds_toArray, List.set_cons_zero, List.set_cons_succ]
          refine wpAnyH_take (i := 46) (oi := ⟨some 187, _, _, _, _, _⟩) (v := ?_) rfl (by kernel_rfl) (by kernel_rfl) (by kernel_rfl) (fun _ _ _ h => h) (Or.inl ⟨by rfl, ?_⟩) (by assumption) ?_
          rotate_left
          · intro w_ hSw; (try dsimp only at hSw); go_simp <;> with_reducible rfl
          simp only [Act.put, List.setIfInBounds_toArray, List.set_cons_zero, List.set_cons_succ]
          refine wpAnyH_take (i := 47) (oi := ⟨some 188, _, _, _, _, _⟩) (v := ?_) rfl (by kernel_rfl) (by kernel_rfl) (by kernel_rfl) (fun _ _ _ h => h) (Or.inl ⟨by rfl, ?_⟩) (by assumption) ?_
          rotate_left
          · intro w_ hSw; (try dsimp only at hSw); go_simp <;> with_reducible rfl
          simp only [Act.put, List.setIfInBounds_toArray, List.set_cons_zero, List.set_cons_succ]
          refine wpAnyH_take (i := 48) (oi := ⟨some 4, _, _, _, _, _⟩) (v := ?_) rfl (by kernel_rfl) (by kernel_rfl) (by kernel_rfl) (fun _ _ _ h => h) (Or.inl ⟨by rfl, ?_⟩) (by assumption) ?_
          rotate_left
          · intro w_ hSw; (try dsimp only at hSw); go_simp <;> with_reducible rfl
          simp only [Act.put, List.setIfInBounds_toArray, List.set_cons_zero, List.set_cons_succ]
          refine wpAnyH_done (by kernel_rfl) ?_ _
          go_wp2_with fail
          go_meet
          exact ⟨rfl, hHeld⟩
        exact AllReadyH.nil
      exact AllReadyH.nil
    case rest =>
      obtain ⟨rfl, _, _, _, _, hyb⟩ := hcut
      have HZB := Lib.hid hyb
      clear hyb
      go_wp2
      go_ret
      exact ⟨rfl, HZB.out⟩
end Go.Proofs.Ytbohoejikihnfaa
