/-
  linesidelaw12.LinkLost, walked.
-/
import Derived.Test.YtbohoejikihnfaaLawLinkAcked

import Derived.BigQuiet

import Derived.Deep.RegionHeld3

namespace Go.Proofs.Ytbohoejikihnfaa

open Go.RowKit

open Go.Great

/-- A session with one message that waits. -/
def oneL (p m q h d tr : Int) (xs : List Nat) : L0 := ⟨p, m, q, h, [⟨9, d, tr, xs⟩]⟩
def headB (p m q : Int) : Prop := (1 ≤ p ∧ p ≤ 1048576) ∧ (0 ≤ m ∧ m ≤ 20) ∧ (1 ≤ q ∧ q ≤ 1048576)
theorem new_heads {p m q now : Int} (h : newE12 p m q now = 0) : headB p m q ∧ (0 ≤ now ∧ now ≤ 4294967294) ∧ newL p m q now = ⟨p, m, q, now, []⟩ := by
  unfold newE12 at h
  by_cases hm : mayL ⟨p, m, q, now, []⟩ = true
  · refine ⟨?_, ?_, by unfold newL; rw [if_pos hm]⟩
    · unfold mayL headOk at hm
      simp only [Bool.and_eq_true, decide_eq_true_eq, isT_iff] at hm
      unfold headB; omega
    · unfold mayL headOk at hm
      simp only [Bool.and_eq_true, decide_eq_true_eq, isT_iff] at hm
      omega
  · rw [if_neg hm] at h; exact absurd h (by decide)
theorem one_may {p m q h d tr : Int} {xs : List Nat} (hh : headB p m q) (ht : 0 ≤ h ∧ h ≤ 4294967294) (hd : 0 ≤ d ∧ d ≤ 8589934592) (hr : 0 ≤ tr ∧ tr ≤ m) (hx : 1 ≤ xs.length ∧ xs.length ≤ 1023) : mayL (oneL p m q h d tr xs) = true := by
  unfold headB at hh
  unfold oneL mayL headOk okW okB
  simp only [Bool.and_eq_true, decide_eq_true_eq, isT_iff, List.all_eq_true, List.length_singleton, List.mem_singleton, forall_eq]
  refine ⟨by omega, by omega, by omega, by simp⟩
theorem one_sent {p m q now : Int} {xs : List Nat} (hh : headB p m q) (ht : 0 ≤ now ∧ now ≤ 4294967294) (hx : 1 ≤ xs.length ∧ xs.length ≤ 1023) : sentE ⟨p, m, q, now, []⟩ 9 now xs = 0 ∧ sentL ⟨p, m, q, now, []⟩ 9 now xs = oneL p m q now (now + p) 0 xs := by
  have hm : mayL ⟨p, m, q, now, []⟩ = true := by
    unfold headB at hh
    unfold mayL headOk
    simp only [Bool.and_eq_true, decide_eq_true_eq, isT_iff]
    exact ⟨by omega, by simp, by simp, by simp⟩
  have hf : fitS ⟨p, m, q, now, []⟩ 9 now xs = true := by
    unfold fitS okB
    simp only [Bool.and_eq_true, decide_eq_true_eq, isT_iff]
    exact ⟨hm, by omega, by omega, by omega⟩
  have e : sentE ⟨p, m, q, now, []⟩ 9 now xs = 0 := by unfold sentE; rw [hf]; rfl
  exact ⟨e, by unfold sentL; rw [e]; rfl⟩
theorem one_heard {p m q h d tr T : Int} {xs : List Nat} (hm : mayL (oneL p m q h d tr xs) = true) (hT : 0 ≤ T ∧ T ≤ 4294967294) (hlt : h < T) : heardE (oneL p m q h d tr xs) T = 0 ∧ heardL (oneL p m q h d tr xs) T = oneL p m q T d tr xs := by
  have e : heardE (oneL p m q h d tr xs) T = 0 := by unfold heardE; rw [hm, (isT_iff T).2 hT]; rfl
  exact ⟨e, by unfold heardL; rw [e]; show (⟨p, m, q, if h < T then T else h, _⟩ : L0) = _; rw [if_pos hlt]; rfl⟩
theorem one_tick {p m q d tr T : Int} {xs : List Nat} (hm : mayL (oneL p m q T d tr xs) = true) (hT : 0 ≤ T ∧ T ≤ 4294967294) (hq : 1 ≤ q) (hd : d ≤ T) (hr : tr ≠ m) :
    tickE (oneL p m q T d tr xs) T = 0 ∧ tickLost (oneL p m q T d tr xs) T = false ∧ tickA (oneL p m q T d tr xs) T = [xs] ∧ tickL (oneL p m q T d tr xs) T = oneL p m q T (T + p) (tr + 1) xs := by
  have hl : lostB (oneL p m q T d tr xs) T = false := by
    unfold lostB overB oneL
    simp [hd, hr]; omega
  have ha : (mayL (oneL p m q T d tr xs) && isT T) = true := by rw [hm, (isT_iff T).2 hT]; rfl
  refine ⟨by unfold tickE; rw [ha]; rfl, by unfold tickLost; rw [ha, hl]; rfl, ?_, ?_⟩
  · unfold tickA; rw [ha, hl, if_pos rfl, if_neg (by decide)]
    show List.map _ (List.filter _ ([⟨9, d, tr, xs⟩] : List W0)) = [xs]
    simp [hd]
  · unfold tickL; rw [ha, hl, if_pos rfl, if_neg (by decide)]
    show (⟨p, m, q, T, List.map (tellW (oneL p m q T d tr xs) T) ([⟨9, d, tr, xs⟩] : List W0)⟩ : L0) = _
    unfold tellW oneL
    simp [hd]
theorem one_end {p m q d T : Int} {xs : List Nat} (hm : mayL (oneL p m q T d m xs) = true) (hT : 0 ≤ T ∧ T ≤ 4294967294) (hd : d ≤ T) :
    tickE (oneL p m q T d m xs) T = 0 ∧ tickLost (oneL p m q T d m xs) T = true ∧ tickA (oneL p m q T d m xs) T = [] := by
  have hl : lostB (oneL p m q T d m xs) T = true := by
    unfold lostB overB oneL
    simp [hd]
  have ha : (mayL (oneL p m q T d m xs) && isT T) = true := by rw [hm, (isT_iff T).2 hT]; rfl
  exact ⟨by unfold tickE; rw [ha]; rfl, by unfold tickLost; rw [ha, hl]; rfl, by unfold tickA; rw [ha, hl]; rfl⟩
theorem mul_bounds {K p : Int} (hk : 0 ≤ K ∧ K ≤ 20) (hp : 1 ≤ p ∧ p ≤ 1048576) : 0 ≤ K * p ∧ K * p ≤ 20971520 := by
  constructor
  · exact Int.mul_nonneg hk.1 (by omega)
  · have h1 : K * p ≤ 20 * p := Int.mul_le_mul_of_nonneg_right hk.2 (by omega)
    omega

set_option maxRecDepth 100000 in
set_option maxHeartbeats 16000000 in
theorem linkLost_walk (p m q now : Int) (B : Option Addr) (d : Nat) (xs : List Nat) (w : World) (_wp : (Lit.int .i64 p).wf = true) (_wm : (Lit.int .i64 m).wf = true) (_wq : (Lit.int .i64 q).wf = true) (_wn : (Lit.int .i64 now).wf = true) (hx : BodyR (fun b => b < w.heap.size) w (.slice B xs.length d) xs) :
    Calls Try.prog 6 #[.int .i64 p, .int .i64 m, .int .i64 q, .int .i64 now, .slice B xs.length d] w fun e w' => e = .returned (.bool true) ∧ Below w.heap.size w w' := by
  have HBX := Lib.hid hx
  have HN := Lib.hid (fun W => olk_new p m q now W)
  have HAW := Lib.hid (awake12_any w)
  clear hx
  go_enter Try.func6, Try.ntmps6
  have HB0 : Hid (Below w.heap.size w w) := Lib.hid (Below.refl _ _)
  obtain s0 := HB0.out
  have HK := Lib.hid (HAW.out)
  clear s0
  go_wp2_with fail
  refine HK.out.mono ?_
  rintro e v1 ⟨rfl, hb1⟩
  obtain s0 := HB0.out
  have hbn : Below w.heap.size w v1 := hb1
  have HB1 : Hid (Below w.heap.size w v1) := Lib.hid (s0.trans (hbn.mono s0.size))
  have hz1_ := hbn.size
  clear s0
  clear HK HB0 HAW hb1
  clear hbn
  obtain s0 := HB1.out
  have HK := Lib.hid (HN.out v1)
  clear s0
  go_wp2_with fail
  refine HK.out.mono ?_
  rintro e v2 ⟨rfl, hb1⟩
  obtain s0 := HB1.out
  have hbn : Below v1.heap.size v1 v2 := hb1
  have HB2 : Hid (Below w.heap.size w v2) := Lib.hid (s0.trans (hbn.mono s0.size))
  have hz2_ := hbn.size
  clear s0
  clear HK HB1 HN hb1
  clear hbn
  obtain s0 := HB2.out
  have le2_2 : w.heap.size ≤ v2.heap.size := s0.size
  have HS0 : Hid (Has (v2.alloc (.cells #[.int .i64 0, .int .i64 0, .int .i64 0, .int .i64 0, .slice none 0 0] 24)) (v2.heap.size) 24 #[.int .i64 0, .int .i64 0, .int .i64 0, .int .i64 0, .slice none 0 0]) := Lib.hid (Has.made v2 24 #[.int .i64 0, .int .i64 0, .int .i64 0, .int .i64 0, .slice none 0 0])
  obtain ⟨v3, hv3⟩ : ∃ v3, (v2.alloc (.cells #[.int .i64 0, .int .i64 0, .int .i64 0, .int .i64 0, .slice none 0 0] 24)).setRow (v2.heap.size) (lkC (newL p m q now) none 0) = v3 := ⟨_, rfl⟩
  have hy3_ : v2.heap.size + 1 ≤ v3.heap.size := by rw [← hv3]; simp
  have hbw : Below v2.heap.size v2 v3 := by rw [← hv3]; exact (below_row (g := v2.heap.size) (Below.alloc (Below.refl v2.heap.size v2) (Nat.le_refl _) (.cells #[.int .i64 0, .int .i64 0, .int .i64 0, .int .i64 0, .slice none 0 0] 24)) (by omega) (lkC (newL p m q now) none 0))
  have HB3 : Hid (Has v3 (v2.heap.size) 24 (lkC (newL p m q now) none 0) ∧ Below w.heap.size w v3) := Lib.hid ⟨(by rw [← hv3]; exact (has_row11 (Has.made v2 24 #[.int .i64 0, .int .i64 0, .int .i64 0, .int .i64 0, .slice none 0 0]) (lkC (newL p m q now) none 0))), s0.trans (hbw.mono s0.size)⟩
  clear hbw
  have HWv3 := Lib.hid hv3
  clear s0
  clear hv3 HB2
  go_upto_region 3 with (first | (with_reducible refine wpList_store_rowTo (o := ⟨none, _, _, _, _, _⟩) rfl 24 _ _ rfl rfl (v2.heap.size) (lkC (newL p m q now) none 0) rfl rfl 24 _ (HS0.out).raw11 (by kernel_rfl) (by kernel_rfl) (by kernel_rfl) ?_))
  rw [HWv3.out]
  clear HWv3 HS0
  by_cases he : newE12 p m q now = 0
  rotate_left
  · have he1 : (newE12 p m q now != 0) = true := by simp [he]
    have HBF := Lib.hid HB3.out.2
    generalize newE12 p m q now = e at *
    clear HB3 he
    go_wp2
    go_ret
    exact ⟨rfl, HBF.out⟩
  obtain ⟨hh, hnow, hnl⟩ := new_heads he
  rw [he]
  rw [hnl] at HB3
  clear he hnl
  by_cases hgo : 1 ≤ xs.length ∧ xs.length ≤ 1023 ∧ now ≤ 2147483648
  rotate_left
  · have hno : (xs.length : Int) < 1 ∨ (¬ (xs.length : Int) < 1 ∧ 1023 < (xs.length : Int)) ∨ (¬ (xs.length : Int) < 1 ∧ ¬ 1023 < (xs.length : Int) ∧ 2147483648 < now) := by omega
    have HBF := Lib.hid HB3.out.2
    clear HB3 hgo
    rcases hno with x1 | ⟨x1, x2⟩ | ⟨x1, x2, x3⟩
    all_goals
      go_wp2
      go_ret
      exact ⟨rfl, HBF.out⟩
  obtain ⟨g1, g2, g3⟩ := hgo
  have x1 : ¬ (xs.length : Int) < 1 := by omega
  have x2 : ¬ 1023 < (xs.length : Int) := by omega
  have x3 : ¬ 2147483648 < now := by omega
  have hxl : 1 ≤ xs.length ∧ xs.length ≤ 1023 := ⟨g1, g2⟩
  obtain ⟨se1, se2⟩ := one_sent hh hnow hxl
  have hS := fun W hx => olk_sent (P := (fun b => b < w.heap.size)) (⟨p, m, q, now, []⟩ : L0) none 0 9 now B d xs W (WsR.nil W) hx rfl (by omega)
  rw [se1, se2] at hS
  have HS := Lib.hid hS
  clear hS se1 se2
  obtain ⟨s0, s1⟩ := HB3.out
  have HL0 := Lib.hid s0
  have HK := Lib.hid (HS.out v3 (HBX.out.under s1))
  clear s0 s1
  go_wp2_with (first | (with_reducible refine wpList_load_row (o := ⟨some 57, _, _, _, _, _⟩) rfl 24 _ rfl (v2.heap.size) rfl 24 (lkC (⟨p, m, q, now, []⟩ : L0) none 0) (0, 0) _ (HL0.out).raw11 Try.underlying24 rfl (by kernel_rfl) ?_))
  refine HK.out.mono ?_
  rintro e v4 ⟨A2, c2, rfl, hw_, hb1⟩
  obtain ⟨s0, s1⟩ := HB3.out
  have hbn : Below v3.heap.size v3 v4 := hb1
  have HB4 : Hid (Has v4 (v2.heap.size) 24 (lkC (⟨p, m, q, now, []⟩ : L0) none 0) ∧ Below w.heap.size w v4) := Lib.hid ⟨s0.under hbn s0.lt, s1.trans (hbn.mono s1.size)⟩
  have hz4_ := hbn.size
  clear s0 s1
  clear HK HB3 HL0 HS hb1 x1 x2 x3
  clear hbn
  obtain ⟨s0, s1⟩ := HB4.out
  have HB5 : Hid (Has v4 (v2.heap.size) 24 (lkC (⟨p, m, q, now, []⟩ : L0) none 0) ∧ WsR (Nw (fun b => b < w.heap.size) v3 v4) v4 A2 1 c2 (oneL p m q now (now + p) 0 xs).ws ∧ Below w.heap.size w v4) := Lib.hid ⟨s0, hw_, s1⟩
  clear s0 s1
  clear HB4
  clear hw_
  obtain ⟨s0, s1, s2⟩ := HB5.out
  have HS0 : Hid (Has v4 (v2.heap.size) 24 (lkC (⟨p, m, q, now, []⟩ : L0) none 0)) := Lib.hid s0
  obtain ⟨v5, hv5⟩ : ∃ v5, v4.setRow (v2.heap.size) (lkC (oneL p m q now (now + p) 0 xs) A2 c2) = v5 := ⟨_, rfl⟩
  have hy5_ : v4.heap.size + 0 ≤ v5.heap.size := by rw [← hv5]; simp
  have HB6 : Hid (Has v5 (v2.heap.size) 24 (lkC (oneL p m q now (now + p) 0 xs) A2 c2) ∧ WsR (Nw (fun b => b < w.heap.size) v3 v4) v5 A2 1 c2 (oneL p m q now (now + p) 0 xs).ws ∧ Below w.heap.size w v5) := Lib.hid (by rw [← hv5]; exact ⟨(has_row11 s0 (lkC (oneL p m q now (now + p) 0 xs) A2 c2)), ((s1).row (by first | (simp only [Nw]; omega) | exact fun h_ => h_ rfl | omega) (lkC (oneL p m q now (now + p) 0 xs) A2 c2)), (below_row (g := v2.heap.size) s2 (by omega) (lkC (oneL p m q now (now + p) 0 xs) A2 c2))⟩)
  have HWv5 := Lib.hid hv5
  clear s0 s1 s2
  clear hv5 HB5
  go_upto_region 6 with (first | (with_reducible refine wpList_store_rowTo (o := ⟨none, _, _, _, _, _⟩) rfl 24 _ _ rfl rfl (v2.heap.size) (lkC (oneL p m q now (now + p) 0 xs) A2 c2) rfl rfl 24 _ (HS0.out).raw11 (by kernel_rfl) (by kernel_rfl) (by kernel_rfl) ?_))
  rw [HWv5.out]
  clear HWv5 HS0
  obtain ⟨g, hg⟩ : ∃ g, v2.heap.size = g := ⟨_, rfl⟩
  obtain ⟨w0, hw0⟩ : ∃ w0, v5 = w0 := ⟨_, rfl⟩
  obtain ⟨s0, s1, s2⟩ := HB6.out
  have HS0 : Hid (Has w0 g 24 (lkC (oneL p m q now (now + p) 0 xs) A2 c2)) := Lib.hid (by rw [← hg, ← hw0]; exact s0)
  have HW0 : Hid (WsR (fun b => b ≠ g) w0 A2 1 c2 (oneL p m q now (now + p) 0 xs).ws) := Lib.hid (by rw [← hg, ← hw0]; exact s1.wide (fun b_ h_ => by simp only [Nw] at h_; omega))
  have HB0 : Hid (Below w.heap.size w w0) := Lib.hid (by rw [← hw0]; exact s2)
  have hgw : w.heap.size ≤ g := by omega
  clear s0 s1 s2
  simp only [hg]
  rw [hw0]
  clear hg hw0 HB6 le2_2
  have hmn20 : 0 ≤ m ∧ m ≤ 20 := hh.2.1
  have hpb : 1 ≤ p ∧ p ≤ 1048576 := hh.1
  have HH := Lib.hid hh; have HXL := Lib.hid hxl
  clear hh hxl g1 g2
  go_wp2
  go_loopg [15] m.toNat (fun kk v wl => ∃ (K K1 : Int) (A3 : Option Addr) (c3 : Nat), (0 ≤ K ∧ K ≤ m) ∧ (m - K).toNat ≤ kk ∧ K + 1 = K1 ∧ v = .int .i64 K1 ∧ Has wl g 24 (lkC (oneL p m q (now + K * p) (now + K * p + p) K xs) A3 c3) ∧ WsR (fun b => b ≠ g) wl A3 1 c3 (oneL p m q (now + K * p) (now + K * p + p) K xs).ws ∧ Below w.heap.size w wl)
  case atStart => exact ⟨0, 1, A2, c2, by omega, by omega, by omega, rfl, by simpa using HS0.out, by simpa using HW0.out, HB0.out⟩
  case round =>
    obtain ⟨K, K1, A3, c3, hk, hkk, hK1, rfl, hs, hws, hbl⟩ := hrel
    obtain ⟨hM0, hM1⟩ := mul_bounds (K := K) (by omega) hpb
    have hM2 : (K + 1) * p = K * p + p := by rw [Int.add_mul, Int.one_mul]
    obtain ⟨M, hM⟩ : ∃ M, K * p = M := ⟨_, rfl⟩
    rw [hM] at hM0 hM1 hM2 hs hws
    have hT : 0 ≤ now + M + p ∧ now + M + p ≤ 4294967294 := by omega
    obtain ⟨MP, hMP⟩ : ∃ MP, M + p = MP := ⟨_, rfl⟩
    have hr1 : wrap64 (K1 * p) = MP := by rw [← hK1, hM2, hMP]; exact IntWalk.wrap64_in _ (by omega)
    obtain ⟨T, hTT⟩ : ∃ T, now + M + p = T := ⟨_, rfl⟩
    have hr2 : wrap64 (now + MP) = T := by rw [← hTT, ← hMP, Int.add_assoc]; exact IntWalk.wrap64_in _ (by omega)
    rw [hTT] at hT hs hws
    have HM2 := Lib.hid hM2; have HTT := Lib.hid hTT; have HK1 := Lib.hid hK1
    clear hM2 hM hMP
    have HS1 := Lib.hid hs; have HW1 := Lib.hid hws; have HB1 := Lib.hid hbl
    clear hs hws hbl HS0 HW0 HB0
    obtain ⟨a1, a2⟩ := one_heard (one_may (xs := xs) (h := now + M) (d := T) (tr := K) HH.out (by omega) (by omega) (by omega) HXL.out) hT (by omega)
    have hma := one_may (xs := xs) (h := T) (d := T) (tr := K) HH.out hT (by omega) (by omega) HXL.out
    have hhe := fun W hw => olk_heard (P := fun b => b ≠ g) (oneL p m q (now + M) T K xs) A3 c3 T W hw (may_light (one_may (xs := xs) (h := now + M) (d := T) (tr := K) HH.out (by omega) (by omega) (by omega) HXL.out))
    rw [a1, a2] at hhe
    have HHE := Lib.hid hhe
    clear hhe a1 a2
    have htk := fun W A c hw => olk_tick (P := fun b => b ≠ g) (oneL p m q T T K xs) A c T W hw (may_light hma)
    unfold TickPost at htk
    by_cases hlt : K < m
    rotate_left
    · obtain rfl : m = K := by omega
      obtain ⟨e1, e2, e3⟩ := one_end hma hT (by omega)
      clear hTT
      rw [e1, e2, e3] at htk
      have HTK := Lib.hid htk
      clear htk hma e1 e2 e3
      have hr3 : wrap64 ((m + 1) * p) = MP := by rw [hK1]; exact hr1
      have hgl_ := HS1.out.lt
      have HB20 : Hid (Has wr (g) 24 (lkC (oneL p m q (now + M) T m xs) A3 c3) ∧ WsR (fun b => b ≠ g) wr A3 1 c3 (oneL p m q (now + M) T m xs).ws ∧ Below w.heap.size w wr) := Lib.hid ⟨HS1.out, HW1.out, HB1.out⟩
      clear HS1 HW1 HB1
      have xx : ¬ K1 ≤ m := by omega
      clear hK1
      obtain ⟨s0, s1, s2⟩ := HB20.out
      have HL0 := Lib.hid s0
      have HK := Lib.hid (HHE.out wr s1)
      clear s0 s1 s2
      go_wp2_with (first | (with_reducible refine wpList_load_row (o := ⟨some 117, _, _, _, _, _⟩) rfl 24 _ rfl (g) rfl 24 (lkC (oneL p m q (now + M) T m xs) A3 c3) (0, 0) _ (HL0.out).raw11 Try.underlying24 rfl (by kernel_rfl) ?_))
      refine HK.out.mono ?_
      rintro e v21 ⟨A4, c4, rfl, hw_, hb1⟩
      obtain ⟨s0, s1, s2⟩ := HB20.out
      have hbn : Below wr.heap.size wr v21 := hb1
      have HB21 : Hid (Has v21 (g) 24 (lkC (oneL p m q (now + M) T m xs) A3 c3) ∧ WsR (fun b => b ≠ g) v21 A3 1 c3 (oneL p m q (now + M) T m xs).ws ∧ Below w.heap.size w v21) := Lib.hid ⟨s0.under hbn s0.lt, s1.under hbn, s2.trans (hbn.mono s2.size)⟩
      have hz21_ := hbn.size
      clear s0 s1 s2
      clear HK HB20 HL0 HHE hb1 xx
      clear hbn
      have hy_ : WsR (fun b => b ≠ g) v21 A4 1 c4 (oneL p m q T T m xs).ws := hw_.wide (fun b_ h_ => by simp only [Nw] at h_; omega)
      obtain ⟨s0, s1, s2⟩ := HB21.out
      have HB22 : Hid (Has v21 (g) 24 (lkC (oneL p m q (now + M) T m xs) A3 c3) ∧ WsR (fun b => b ≠ g) v21 A3 1 c3 (oneL p m q (now + M) T m xs).ws ∧ WsR (fun b => b ≠ g) v21 A4 1 c4 (oneL p m q T T m xs).ws ∧ Below w.heap.size w v21) := Lib.hid ⟨s0, s1, hy_, s2⟩
      clear s0 s1 s2
      clear HB21
      clear hw_ hy_
      obtain ⟨s0, s1, s2, s3⟩ := HB22.out
      have HB23 : Hid (Has v21 (g) 24 (lkC (oneL p m q (now + M) T m xs) A3 c3) ∧ WsR (fun b => b ≠ g) v21 A4 1 c4 (oneL p m q T T m xs).ws ∧ Below w.heap.size w v21) := Lib.hid ⟨s0, s2, s3⟩
      clear s0 s1 s2 s3
      clear HB22
      obtain ⟨s0, s1, s2⟩ := HB23.out
      have HS0 : Hid (Has v21 (g) 24 (lkC (oneL p m q (now + M) T m xs) A3 c3)) := Lib.hid s0
      obtain ⟨v22, hv22⟩ : ∃ v22, v21.setRow (g) (lkC (oneL p m q T T m xs) A4 c4) = v22 := ⟨_, rfl⟩
      have hy22_ : v21.heap.size + 0 ≤ v22.heap.size := by rw [← hv22]; simp
      have HB24 : Hid (Has v22 (g) 24 (lkC (oneL p m q T T m xs) A4 c4) ∧ WsR (fun b => b ≠ g) v22 A4 1 c4 (oneL p m q T T m xs).ws ∧ Below w.heap.size w v22) := Lib.hid (by rw [← hv22]; exact ⟨(has_row11 s0 (lkC (oneL p m q T T m xs) A4 c4)), ((s1).row (by first | (simp only [Nw]; omega) | exact fun h_ => h_ rfl | omega) (lkC (oneL p m q T T m xs) A4 c4)), (below_row (g := g) s2 (by omega) (lkC (oneL p m q T T m xs) A4 c4))⟩)
      have HWv22 := Lib.hid hv22
      clear s0 s1 s2
      clear hv22 HB23
      go_upto_region 17 with (first | (with_reducible refine wpList_store_rowTo (o := ⟨none, _, _, _, _, _⟩) rfl 24 _ _ rfl rfl (g) (lkC (oneL p m q T T m xs) A4 c4) rfl rfl 24 _ (HS0.out).raw11 (by kernel_rfl) (by kernel_rfl) (by kernel_rfl) ?_))
      rw [HWv22.out]
      clear HWv22 HS0
      obtain ⟨s0, s1, s2⟩ := HB24.out
      have HL0 := Lib.hid s0
      have HK := Lib.hid (HTK.out v22 A4 c4 s1)
      clear s0 s1 s2
      go_wp2_with (first | (with_reducible refine wpList_load_row (o := ⟨some 128, _, _, _, _, _⟩) rfl 24 _ rfl (g) rfl 24 (lkC (oneL p m q T T m xs) A4 c4) (0, 0) _ (HL0.out).raw11 Try.underlying24 rfl (by kernel_rfl) ?_))
      refine HK.out.mono ?_
      rintro e v23 ⟨A5, c5, B5, d5, rfl, _, _, hb1⟩
      obtain ⟨s0, s1, s2⟩ := HB24.out
      have hbn : Below v22.heap.size v22 v23 := hb1
      have HB25 : Hid (Has v23 (g) 24 (lkC (oneL p m q T T m xs) A4 c4) ∧ WsR (fun b => b ≠ g) v23 A4 1 c4 (oneL p m q T T m xs).ws ∧ Below w.heap.size w v23) := Lib.hid ⟨s0.under hbn s0.lt, s1.under hbn, s2.trans (hbn.mono s2.size)⟩
      have hz23_ := hbn.size
      clear s0 s1 s2
      clear HK HB24 HL0 HTK hb1
      clear hbn
      generalize tickL (oneL p m q T T m xs) T = tr at *
      obtain ⟨s0, s1, s2⟩ := HB25.out
      have lt23_25 : g < v23.heap.size := s0.lt
      have le23_25 : w.heap.size ≤ v23.heap.size := s2.size
      have HS0 : Hid (Has (v23.alloc (.cells #[.int .i64 0, .int .i64 0, .int .i64 0, .int .i64 0, .slice none 0 0] 24)) (v23.heap.size) 24 #[.int .i64 0, .int .i64 0, .int .i64 0, .int .i64 0, .slice none 0 0]) := Lib.hid (Has.made v23 24 #[.int .i64 0, .int .i64 0, .int .i64 0, .int .i64 0, .slice none 0 0])
      obtain ⟨v24, hv24⟩ : ∃ v24, (v23.alloc (.cells #[.int .i64 0, .int .i64 0, .int .i64 0, .int .i64 0, .slice none 0 0] 24)).setRow (v23.heap.size) (lkC tr A5 c5) = v24 := ⟨_, rfl⟩
      have hy24_ : v23.heap.size + 1 ≤ v24.heap.size := by rw [← hv24]; simp
      have hbw : Below v23.heap.size v23 v24 := by rw [← hv24]; exact (below_row (g := v23.heap.size) (Below.alloc (Below.refl v23.heap.size v23) (Nat.le_refl _) (.cells #[.int .i64 0, .int .i64 0, .int .i64 0, .int .i64 0, .slice none 0 0] 24)) (by omega) (lkC tr A5 c5))
      have HB26 : Hid (Has v24 (g) 24 (lkC (oneL p m q T T m xs) A4 c4) ∧ WsR (fun b => b ≠ g) v24 A4 1 c4 (oneL p m q T T m xs).ws ∧ Has v24 (v23.heap.size) 24 (lkC tr A5 c5) ∧ Below w.heap.size w v24) := Lib.hid ⟨s0.under hbw s0.lt, s1.under hbw, (by rw [← hv24]; exact (has_row11 (Has.made v23 24 #[.int .i64 0, .int .i64 0, .int .i64 0, .int .i64 0, .slice none 0 0]) (lkC tr A5 c5))), s2.trans (hbw.mono s2.size)⟩
      clear hbw
      have HWv24 := Lib.hid hv24
      clear s0 s1 s2
      clear hv24 HB25
      go_upto_region 18 with (first | (with_reducible refine wpList_store_rowTo (o := ⟨none, _, _, _, _, _⟩) rfl 24 _ _ rfl rfl (v23.heap.size) (lkC tr A5 c5) rfl rfl 24 _ (HS0.out).raw11 (by kernel_rfl) (by kernel_rfl) (by kernel_rfl) ?_))
      rw [HWv24.out]
      clear HWv24 HS0
      have HBF := Lib.hid HB26.out.2.2.2
      clear hr1 hr2 hr3
      go_wp2
      go_ret
      exact ⟨by simp, HBF.out⟩
    obtain ⟨e1, e2, e3, e4⟩ := one_tick hma hT HH.out.2.2.1 (by omega) (by omega)
    clear hTT
    rw [e1, e2, e3, e4] at htk
    have HTK := Lib.hid htk
    clear htk hma e1 e2 e3 e4
    have hgl_ := HS1.out.lt
    have HB40 : Hid (Has wr (g) 24 (lkC (oneL p m q (now + M) T K xs) A3 c3) ∧ WsR (fun b => b ≠ g) wr A3 1 c3 (oneL p m q (now + M) T K xs).ws ∧ Below w.heap.size w wr) := Lib.hid ⟨HS1.out, HW1.out, HB1.out⟩
    clear HS1 HW1 HB1
    have xx : K1 ≤ m := by omega
    clear hK1
    obtain ⟨s0, s1, s2⟩ := HB40.out
    have HL0 := Lib.hid s0
    have HK := Lib.hid (HHE.out wr s1)
    clear s0 s1 s2
    go_wp2_with (first | (with_reducible refine wpList_load_row (o := ⟨some 71, _, _, _, _, _⟩) rfl 24 _ rfl (g) rfl 24 (lkC (oneL p m q (now + M) T K xs) A3 c3) (0, 0) _ (HL0.out).raw11 Try.underlying24 rfl (by kernel_rfl) ?_))
    refine HK.out.mono ?_
    rintro e v41 ⟨A4, c4, rfl, hw_, hb1⟩
    obtain ⟨s0, s1, s2⟩ := HB40.out
    have hbn : Below wr.heap.size wr v41 := hb1
    have HB41 : Hid (Has v41 (g) 24 (lkC (oneL p m q (now + M) T K xs) A3 c3) ∧ WsR (fun b => b ≠ g) v41 A3 1 c3 (oneL p m q (now + M) T K xs).ws ∧ Below w.heap.size w v41) := Lib.hid ⟨s0.under hbn s0.lt, s1.under hbn, s2.trans (hbn.mono s2.size)⟩
    have hz41_ := hbn.size
    clear s0 s1 s2
    clear HK HB40 HL0 HHE hb1 xx
    clear hbn
    have hy_ : WsR (fun b => b ≠ g) v41 A4 1 c4 (oneL p m q T T K xs).ws := hw_.wide (fun b_ h_ => by simp only [Nw] at h_; omega)
    obtain ⟨s0, s1, s2⟩ := HB41.out
    have HB42 : Hid (Has v41 (g) 24 (lkC (oneL p m q (now + M) T K xs) A3 c3) ∧ WsR (fun b => b ≠ g) v41 A3 1 c3 (oneL p m q (now + M) T K xs).ws ∧ WsR (fun b => b ≠ g) v41 A4 1 c4 (oneL p m q T T K xs).ws ∧ Below w.heap.size w v41) := Lib.hid ⟨s0, s1, hy_, s2⟩
    clear s0 s1 s2
    clear HB41
    clear hw_ hy_
    obtain ⟨s0, s1, s2, s3⟩ := HB42.out
    have HB43 : Hid (Has v41 (g) 24 (lkC (oneL p m q (now + M) T K xs) A3 c3) ∧ WsR (fun b => b ≠ g) v41 A4 1 c4 (oneL p m q T T K xs).ws ∧ Below w.heap.size w v41) := Lib.hid ⟨s0, s2, s3⟩
    clear s0 s1 s2 s3
    clear HB42
    obtain ⟨s0, s1, s2⟩ := HB43.out
    have lt41_43 : g < v41.heap.size := s0.lt
    have le41_43 : w.heap.size ≤ v41.heap.size := s2.size
    have HS0 : Hid (Has (v41.alloc (.cells #[.int .i64 0, .int .i64 0, .int .i64 0, .int .i64 0, .slice none 0 0] 24)) (v41.heap.size) 24 #[.int .i64 0, .int .i64 0, .int .i64 0, .int .i64 0, .slice none 0 0]) := Lib.hid (Has.made v41 24 #[.int .i64 0, .int .i64 0, .int .i64 0, .int .i64 0, .slice none 0 0])
    obtain ⟨v42, hv42⟩ : ∃ v42, (v41.alloc (.cells #[.int .i64 0, .int .i64 0, .int .i64 0, .int .i64 0, .slice none 0 0] 24)).setRow (v41.heap.size) (lkC (oneL p m q T T K xs) A4 c4) = v42 := ⟨_, rfl⟩
    have hy42_ : v41.heap.size + 1 ≤ v42.heap.size := by rw [← hv42]; simp
    have hbw : Below v41.heap.size v41 v42 := by rw [← hv42]; exact (below_row (g := v41.heap.size) (Below.alloc (Below.refl v41.heap.size v41) (Nat.le_refl _) (.cells #[.int .i64 0, .int .i64 0, .int .i64 0, .int .i64 0, .slice none 0 0] 24)) (by omega) (lkC (oneL p m q T T K xs) A4 c4))
    have HB44 : Hid (Has v42 (g) 24 (lkC (oneL p m q (now + M) T K xs) A3 c3) ∧ WsR (fun b => b ≠ g) v42 A4 1 c4 (oneL p m q T T K xs).ws ∧ Has v42 (v41.heap.size) 24 (lkC (oneL p m q T T K xs) A4 c4) ∧ Below w.heap.size w v42) := Lib.hid ⟨s0.under hbw s0.lt, s1.under hbw, (by rw [← hv42]; exact (has_row11 (Has.made v41 24 #[.int .i64 0, .int .i64 0, .int .i64 0, .int .i64 0, .slice none 0 0]) (lkC (oneL p m q T T K xs) A4 c4))), s2.trans (hbw.mono s2.size)⟩
    clear hbw
    have HWv42 := Lib.hid hv42
    clear s0 s1 s2
    clear hv42 HB43
    go_upto_region 12 with (first | (with_reducible refine wpList_store_rowTo (o := ⟨none, _, _, _, _, _⟩) rfl 24 _ _ rfl rfl (v41.heap.size) (lkC (oneL p m q T T K xs) A4 c4) rfl rfl 24 _ (HS0.out).raw11 (by kernel_rfl) (by kernel_rfl) (by kernel_rfl) ?_))
    rw [HWv42.out]
    clear HWv42 HS0
    obtain ⟨s0, s1, s2, s3⟩ := HB44.out
    have hgl2_ := s0.lt
    clear s0 s1 s2 s3
    obtain ⟨s0, s1, s2, s3⟩ := HB44.out
    have HL0 := Lib.hid s2
    have HK := Lib.hid (HTK.out v42 A4 c4 s1)
    clear s0 s1 s2 s3
    go_wp2_with (first | (with_reducible refine wpList_load_row (o := ⟨some 81, _, _, _, _, _⟩) rfl 24 _ rfl (v41.heap.size) rfl 24 (lkC (oneL p m q T T K xs) A4 c4) (0, 0) _ (HL0.out).raw11 Try.underlying24 rfl (by kernel_rfl) ?_))
    refine HK.out.mono ?_
    rintro e v43 ⟨A5, c5, B5, d5, rfl, hw_, hl_, hb1⟩
    obtain ⟨s0, s1, s2, s3⟩ := HB44.out
    have hbn : Below v42.heap.size v42 v43 := hb1
    have HB45 : Hid (Has v43 (g) 24 (lkC (oneL p m q (now + M) T K xs) A3 c3) ∧ WsR (fun b => b ≠ g) v43 A4 1 c4 (oneL p m q T T K xs).ws ∧ Has v43 (v41.heap.size) 24 (lkC (oneL p m q T T K xs) A4 c4) ∧ Below w.heap.size w v43) := Lib.hid ⟨s0.under hbn s0.lt, s1.under hbn, s2.under hbn s2.lt, s3.trans (hbn.mono s3.size)⟩
    have hz43_ := hbn.size
    clear s0 s1 s2 s3
    clear HK HB44 HL0 HTK hb1
    clear hbn
    have hy_ : WsR (fun b => b ≠ g) v43 A5 1 c5 (oneL p m q T (T + p) (K + 1) xs).ws := hw_.wide (fun b_ h_ => by simp only [Nw] at h_; omega)
    obtain ⟨s0, s1, s2, s3⟩ := HB45.out
    have HB46 : Hid (Has v43 (g) 24 (lkC (oneL p m q (now + M) T K xs) A3 c3) ∧ WsR (fun b => b ≠ g) v43 A4 1 c4 (oneL p m q T T K xs).ws ∧ Has v43 (v41.heap.size) 24 (lkC (oneL p m q T T K xs) A4 c4) ∧ WsR (fun b => b ≠ g) v43 A5 1 c5 (oneL p m q T (T + p) (K + 1) xs).ws ∧ Below w.heap.size w v43) := Lib.hid ⟨s0, s1, s2, hy_, s3⟩
    clear s0 s1 s2 s3
    clear HB45
    obtain ⟨s0, s1, s2, s3, s4⟩ := HB46.out
    have HB47 : Hid (Has v43 (g) 24 (lkC (oneL p m q (now + M) T K xs) A3 c3) ∧ WsR (fun b => b ≠ g) v43 A4 1 c4 (oneL p m q T T K xs).ws ∧ Has v43 (v41.heap.size) 24 (lkC (oneL p m q T T K xs) A4 c4) ∧ WsR (fun b => b ≠ g) v43 A5 1 c5 (oneL p m q T (T + p) (K + 1) xs).ws ∧ LsR (Nw (fun b => b ≠ g) v42 v43) v43 B5 1 d5 [xs] ∧ Below w.heap.size w v43) := Lib.hid ⟨s0, s1, s2, s3, hl_, s4⟩
    clear s0 s1 s2 s3 s4
    clear HB46
    clear hw_ hy_ hl_
    obtain ⟨s0, s1, s2, s3, s4, s5⟩ := HB47.out
    have HB48 : Hid (Has v43 (g) 24 (lkC (oneL p m q (now + M) T K xs) A3 c3) ∧ Has v43 (v41.heap.size) 24 (lkC (oneL p m q T T K xs) A4 c4) ∧ WsR (fun b => b ≠ g) v43 A5 1 c5 (oneL p m q T (T + p) (K + 1) xs).ws ∧ LsR (Nw (fun b => b ≠ g) v42 v43) v43 B5 1 d5 [xs] ∧ Below w.heap.size w v43) := Lib.hid ⟨s0, s2, s3, s4, s5⟩
    clear s0 s1 s2 s3 s4 s5
    clear HB47
    obtain ⟨s0, s1, s2, s3, s4⟩ := HB48.out
    have lt43_48 : v41.heap.size < v43.heap.size := s1.lt
    have le43_48 : w.heap.size ≤ v43.heap.size := s4.size
    have HS0 : Hid (Has (v43.alloc (.cells #[.int .i64 0, .int .i64 0, .int .i64 0, .int .i64 0, .slice none 0 0] 24)) (v43.heap.size) 24 #[.int .i64 0, .int .i64 0, .int .i64 0, .int .i64 0, .slice none 0 0]) := Lib.hid (Has.made v43 24 #[.int .i64 0, .int .i64 0, .int .i64 0, .int .i64 0, .slice none 0 0])
    obtain ⟨v44, hv44⟩ : ∃ v44, (v43.alloc (.cells #[.int .i64 0, .int .i64 0, .int .i64 0, .int .i64 0, .slice none 0 0] 24)).setRow (v43.heap.size) (lkC (oneL p m q T (T + p) (K + 1) xs) A5 c5) = v44 := ⟨_, rfl⟩
    have hy44_ : v43.heap.size + 1 ≤ v44.heap.size := by rw [← hv44]; simp
    have hbw : Below v43.heap.size v43 v44 := by rw [← hv44]; exact (below_row (g := v43.heap.size) (Below.alloc (Below.refl v43.heap.size v43) (Nat.le_refl _) (.cells #[.int .i64 0, .int .i64 0, .int .i64 0, .int .i64 0, .slice none 0 0] 24)) (by omega) (lkC (oneL p m q T (T + p) (K + 1) xs) A5 c5))
    have HB49 : Hid (Has v44 (g) 24 (lkC (oneL p m q (now + M) T K xs) A3 c3) ∧ Has v44 (v41.heap.size) 24 (lkC (oneL p m q T T K xs) A4 c4) ∧ WsR (fun b => b ≠ g) v44 A5 1 c5 (oneL p m q T (T + p) (K + 1) xs).ws ∧ LsR (Nw (fun b => b ≠ g) v42 v43) v44 B5 1 d5 [xs] ∧ Has v44 (v43.heap.size) 24 (lkC (oneL p m q T (T + p) (K + 1) xs) A5 c5) ∧ Below w.heap.size w v44) := Lib.hid ⟨s0.under hbw s0.lt, s1.under hbw s1.lt, s2.under hbw, s3.under hbw, (by rw [← hv44]; exact (has_row11 (Has.made v43 24 #[.int .i64 0, .int .i64 0, .int .i64 0, .int .i64 0, .slice none 0 0]) (lkC (oneL p m q T (T + p) (K + 1) xs) A5 c5))), s4.trans (hbw.mono s4.size)⟩
    clear hbw
    have HWv44 := Lib.hid hv44
    clear s0 s1 s2 s3 s4
    clear hv44 HB48
    go_upto_region 13 with (first | (with_reducible refine wpList_store_rowTo (o := ⟨none, _, _, _, _, _⟩) rfl 24 _ _ rfl rfl (v43.heap.size) (lkC (oneL p m q T (T + p) (K + 1) xs) A5 c5) rfl rfl 24 _ (HS0.out).raw11 (by kernel_rfl) (by kernel_rfl) (by kernel_rfl) ?_))
    rw [HWv44.out]
    clear HWv44 HS0
    obtain ⟨s0, s1, s2, s3, s4, s5⟩ := HB49.out
    obtain ⟨bk, off, v, hB5, hv, f0⟩ := s3.at_ (j := 0) (x := xs) rfl
    subst hB5
    rw [Nat.add_zero] at f0
    have HCV := Lib.hid (fun W (hW : Below v44.heap.size v44 W) => And.intro ((hW.cell (cell_block f0)).trans f0) (And.intro (hv.under hW).conv (HBX.out.under (s5.trans (hW.mono s5.size))).conv))
    have h8 : (∀ z ∈ xs, z < 256) := by obtain ⟨_, _, _, _, h1, _⟩ := HBX.out; exact h1
    have hsb := str8_beq12 h8 h8
    rw [decide_eq_true rfl] at hsb
    have hsn : ((str8 xs).toList != (str8 xs).toList) = false := by rw [bne, hsb]; rfl
    obtain ⟨VA, vc, rfl, -⟩ := hv
    clear s0 s1 s2 s3 s4 s5
    obtain ⟨cv0, cv1, cv2⟩ := HCV.out v44.drew (below_dr11 (Below.refl _ _))
    go_cut [114] (fun s114 wx => s114 = .bool false ∧ wx = v44.drew)
    case first =>
      go_region_held3 (fun w' => w'.cell? ⟨bk, off, none⟩ = some (.slice VA xs.length vc) ∧ (convert 25 9 (.slice VA xs.length vc)).run Try.prog w' = .ok (.string (str8 xs)) w' ∧ (convert 25 9 (.slice B xs.length d)).run Try.prog w' = .ok (.string (str8 xs)) w') (first | go_keep | exact ⟨cv1, cv2⟩ | exact ⟨cv0, cv1, cv2⟩) (first | fail)
      go_wp2_with fail
      go_meet
      exact ⟨by first | rfl | simp [hsn], rfl⟩
    case rest =>
      obtain ⟨rfl, rfl⟩ := hcut
      have hwk : wrap64 (K1 + 1) = K1 + 1 := by have h_ := HK1.out; exact IntWalk.wrap64_in _ (by omega)
      clear f0 h8 hsb hsn cv0 cv1 cv2 HCV hr1 hr2
      obtain ⟨s0, s1, s2, s3, s4, s5⟩ := HB49.out
      have HS6 := Lib.hid s0.draw; have HN6 := Lib.hid s4.draw; have HW6 : Hid (WsR (fun b => b ≠ g) v44.drew A5 1 c5 (oneL p m q T (T + p) (K + 1) xs).ws) := Lib.hid (s2.under (below_dr11 (Below.refl _ _))); have HB6 := Lib.hid (below_dr11 s5)
      clear s0 s1 s2 s3 s4 s5
      have HS7 := Lib.hid (has_row11 HS6.out (lkC (oneL p m q T (T + p) (K + 1) xs) A5 c5)); have HW7 := Lib.hid (HW6.out.row (g := g) (fun h_ => h_ rfl) (lkC (oneL p m q T (T + p) (K + 1) xs) A5 c5)); have HB7 := Lib.hid (below_row (g := g) HB6.out hgw (lkC (oneL p m q T (T + p) (K + 1) xs) A5 c5))
      go_wp2_with (first | (with_reducible refine wpList_load_row (o := ⟨some 115, _, _, _, _, _⟩) rfl 24 _ rfl (v43.heap.size) rfl 24 (lkC (oneL p m q T (T + p) (K + 1) xs) A5 c5) (0, 0) _ (HN6.out).raw11 Try.underlying24 rfl (by kernel_rfl) ?_) | (with_reducible refine wpList_store_rowTo (o := ⟨none, _, _, _, _, _⟩) rfl 24 _ _ rfl rfl (g) (lkC (oneL p m q T (T + p) (K + 1) xs) A5 c5) rfl rfl 24 _ (HS6.out).raw11 (by kernel_rfl) (by kernel_rfl) (by kernel_rfl) ?_))
      have hTk : now + (K + 1) * p = T := by rw [← HTT.out, HM2.out]; omega
      go_roundg (gk - 1)
      case measure => omega
      case rel => exact ⟨K + 1, K1 + 1, A5, c5, by have := HK1.out; omega, by have := HK1.out; omega, by have := HK1.out; omega, by first | rfl | (rw [hwk]; done) | (rw [hwk]) | go_num, by rw [hTk]; exact HS7.out, by rw [hTk]; exact HW7.out, HB7.out⟩
end Go.Proofs.Ytbohoejikihnfaa
