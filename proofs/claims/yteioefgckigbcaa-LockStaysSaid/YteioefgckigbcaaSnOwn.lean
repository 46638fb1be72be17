/-
  span as landed: Over.
-/
import Derived.Test.YteioefgckigbcaaSnF

import Derived.Test.YteioefgckigbcaaToLenE

import Derived.BigQuiet

import Derived.IntWalk

namespace Go.Proofs.Yteioefgckigbcaa

open Go.RowKit

open Go.Great

theorem otp_length_n (t : Tp3) (a : TpA) (path : List St3) (A : Option Addr) (n c : Nat) (w : World) (ht : TopR w t a) (hp : SlO stC 2 w A n c path) (hn : n ≤ 1048576) (hl : lightT t = true) :
    Calls Try.prog 42 #[.agg (tpC t a), .slice A n c] w fun e w' => ∃ N : Int, e = .returned (.tuple #[.int .i64 N, .int .i64 (lenE t path)]) ∧ (edgesOk t = true → N = lenN t path) ∧ Below w.heap.size w w' := by
  cases hq : edgesOk t with
  | true => exact (otp_length t a path A n c w ht hp hn hl hq).mono fun e w' h => ⟨_, h.1, fun _ => rfl, h.2⟩
  | false => exact (otp_length_e t a path A n c w ht hp hn hl).mono fun e w' h => by obtain ⟨N, h1, h2⟩ := h; exact ⟨N, h1, (fun h => by cases h), h2⟩
theorem edges_any (t : Tp3) : (t.edges.any noLen) = !edgesOk t := by
  unfold edgesOk
  rw [List.not_all_eq_any_not]
  congr 1
  funext x
  rw [Bool.eq_iff_iff]
  unfold noLen
  simp only [Bool.or_eq_true, decide_eq_true_eq, Bool.not_eq_true', Bool.and_eq_false_iff, decide_eq_false_iff_not]
  omega
theorem ovr_len {t : Tp3} {path : List St3} {fr tz : Int} (h : lenE t path ≠ 0) : overE t path fr tz = ([], lenE t path) := if_neg h
theorem ovr_edges {t : Tp3} {path : List St3} {fr tz : Int} (h : lenE t path = 0) (h2 : edgesOk t = false) : overE t path fr tz = ([], 1) := by
  unfold overE
  rw [if_pos h, if_neg (by rw [h2]; rintro ⟨h3, _⟩; cases h3)]
theorem ovr_args {t : Tp3} {path : List St3} {fr tz : Int} (h : lenE t path = 0) (h2 : fr < 0 ∨ tz < fr ∨ sumT t path < tz) : overE t path fr tz = ([], 1) := by
  unfold overE
  rw [if_pos h, if_neg (fun h3 => h3.2 h2)]
theorem sumT_le {t : Tp3} {path : List St3} (h : ∀ s ∈ path, lenAt t s ≤ 1000000) : sumT t path ≤ path.length * 1000000 := by
  induction path with
  | nil => simp [sumT]
  | cons s r ih =>
    have h1 := h s (List.mem_cons_self ..)
    have h2 := ih fun u hu => h u (List.mem_cons_of_mem _ hu)
    rw [List.length_cons]
    unfold sumT
    omega
theorem way_edges {t : Tp3} {path : List St3} (h : lenE t path = 0) : ∀ s ∈ path, 0 ≤ s.edge ∧ s.edge < t.edges.length := fun s hs => by
  unfold lenE at h
  split at h
  · cases h
  · split at h
    · rename_i h2
      have h3 := List.all_eq_true.1 h2 s hs
      unfold edgeB at h3
      simpa using h3
    · cases h
def secGo (t : Tp3) (fr tz : Int) : List St3 → Int → List Sn3
  | [], _ => []
  | s :: r, at_ => secN s (lenAt t s) (fr - at_) (tz - at_) :: secGo t fr tz r (at_ + lenAt t s)
theorem sec_at {t : Tp3} {fr tz at_ : Int} {path : List St3} {i : Nat} {x : St3} (hx : path[i]? = some x) : secGo t fr tz (path.drop i) at_ = secN x (lenAt t x) (fr - at_) (tz - at_) :: secGo t fr tz (path.drop (i + 1)) (at_ + lenAt t x) := by
  obtain ⟨h1, e⟩ := List.getElem?_eq_some_iff.1 hx
  rw [List.drop_eq_getElem_cons h1, e, secGo]
theorem sec_len (t : Tp3) (fr tz : Int) (path : List St3) (at_ : Int) : (secGo t fr tz path at_).length = path.length := by
  induction path generalizing at_ with
  | nil => rfl
  | cons s r ih => rw [secGo, List.length_cons, List.length_cons, ih]
theorem sec_part {t : Tp3} {fr tz at_ e x : Int} {s : St3} : hasS (secN s (lenAt t s) (fr - at_) (tz - at_)) e x = hasL (partN s (lenAt t s) (cutA fr at_) (cutB tz at_ (lenAt t s))) e x := by
  rw [cut_eqA, cut_eqB]
  generalize lenAt t s = n
  obtain ⟨se, sr⟩ := s
  rw [Bool.eq_iff_iff]
  unfold secN partN
  dsimp only
  by_cases h : max 0 (fr - at_) < min n (tz - at_)
  · rw [if_pos h]
    cases sr
    · simp only [hasL, List.any_cons, List.any_nil, Bool.or_false]
      rw [if_neg (by decide), if_neg (by decide), hasS_iff, hasS_iff]
      dsimp only
      omega
    · simp only [hasL, List.any_cons, List.any_nil, Bool.or_false]
      rw [if_pos trivial, if_pos trivial, hasS_iff, hasS_iff]
      dsimp only
      omega
  · rw [if_neg h]
    cases sr
    · rw [if_neg (by decide), hasS_iff]
      simp only [hasL, List.any_nil]
      try dsimp only
      constructor
      · omega
      · intro h2; cases h2
    · rw [if_pos rfl, hasS_iff]
      simp only [hasL, List.any_nil]
      try dsimp only
      constructor
      · omega
      · intro h2; cases h2
theorem sec_has (t : Tp3) (fr tz : Int) (path : List St3) (at_ e x : Int) : hasL (secGo t fr tz path at_) e x = hasL (ovGo t fr tz path at_) e x := by
  induction path generalizing at_ with
  | nil => rfl
  | cons s r ih => rw [secGo, ovGo, hasL_cons, hasL_app, ih, sec_part]
theorem sec_norm (t : Tp3) (fr tz : Int) (path : List St3) : normL (secGo t fr tz path 0) = normL (ovGo t fr tz path 0) := norm_of (norm_normal _) fun e x => by rw [norm_has, sec_has]

set_option maxRecDepth 100000 in
set_option maxHeartbeats 20000000 in
theorem osn_over0 (t : Tp3) (a : TpA) (path : List St3) (A : Option Addr) (n c : Nat) (fr tz : Int) (w : World) (ht : TopR w t a) (hp : SlO stC 2 w A n c path) (hn : n ≤ 100) (hl : lightT t = true) : Calls Try.prog 43 #[.agg (tpC t a), .slice A n c, .int .i64 fr, .int .i64 tz] w fun r w' => ∃ X x, r = .returned (.tuple #[.slice X (overE t path fr tz).1.length x, .int .i64 (overE t path fr tz).2]) ∧ SlO snC 3 w' X (overE t path fr tz).1.length x (overE t path fr tz).1 ∧ (overE t path fr tz).1.length ≤ x ∧ Below w.heap.size w w' := by
  obtain ⟨rL, hrL⟩ : ∃ r, (overE t path fr tz).1 = r := ⟨_, rfl⟩
  obtain ⟨rE, hrE⟩ : ∃ r, (overE t path fr tz).2 = r := ⟨_, rfl⟩
  have HOE := Lib.hid (show overE t path fr tz = (rL, rE) from Prod.ext hrL hrE)
  rw [hrL, hrE]
  clear hrL hrE
  have HNN := Lib.hid (light_nums13 hl)
  have HNL := Lib.hid hn
  have HL := Lib.hid hp.1
  have HLT := Lib.hid hl
  obtain ⟨wa, hwa⟩ : ∃ wa, w.alloc (.cells (tpC t a) 27) = wa := ⟨_, rfl⟩
  have hbwa : Below w.heap.size w wa := by rw [← hwa]; exact (Below.refl _ _).alloc (Nat.le_refl _) _
  have h0 : Has wa (w.heap.size) 27 (tpC t a) := by rw [← hwa]; exact (Has.made _ _ _)
  have HWA := Lib.hid hwa; have HBWA := Lib.hid hbwa
  have HT := Lib.hid (fun W (hW : Below w.heap.size w W) => ht.under hW)
  have HPA := Lib.hid (fun W (hW : Below w.heap.size w W) => hp.under hW)
  have H0 := Lib.hid (fun W (hW : Below wa.heap.size wa W) => h0.under hW h0.lt)
  have HBA := Lib.hid (fun W (hW : Below wa.heap.size wa W) => hbwa.trans (hW.mono hbwa.size))
  clear hwa hbwa h0 ht hp hl hn
  go_enter Try.func43, Try.ntmps43
  go_upto_region 1 with fail
  rw [HWA.out]
  clear HWA
  go_wp2_with (with_reducible refine wpList_load_row (o := ⟨some 17, _, _, _, _, _⟩) rfl 27 _ rfl (w.heap.size) rfl 27 (tpC t a) (0, 0) _ ((H0.out wa (Below.refl _ _))).raw11 Try.underlying27 rfl (by kernel_rfl) ?_)
  refine (otp_length_n t a path A n c wa (HT.out _ HBWA.out) (HPA.out _ HBWA.out) (by have := HNL.out; omega) HLT.out).mono ?_
  rintro e w1 ⟨N, rfl, hN, hb1⟩
  have HB1 := Lib.hid hb1
  have HNE := Lib.hid hN
  clear hb1 hN
  by_cases z0 : lenE t path = 0
  rotate_left
  · have q0 : (lenE t path != 0) = true := by simp [z0]
    have HR := Lib.hid (show rL = [] ∧ rE = lenE t path from by have h_ := HOE.out; rw [ovr_len z0] at h_; injection h_ with h1_ h2_; exact ⟨h1_.symm, h2_.symm⟩)
    obtain ⟨h1_, h2_⟩ := HR.out
    subst h1_ h2_
    clear HR HOE
    go_wp2
    go_ret2
    exact ⟨none, 0, rfl, SlO.nil _ _ _, Nat.le_refl _, HBA.out _ HB1.out⟩
  rw [z0]
  have HZ := Lib.hid z0
  clear z0
  by_cases z1 : fr < 0
  · skip
    have HR := Lib.hid (show rL = [] ∧ rE = 1 from by have h_ := HOE.out; rw [ovr_args HZ.out (.inl z1)] at h_; injection h_ with h1_ h2_; exact ⟨h1_.symm, h2_.symm⟩)
    obtain ⟨h1_, h2_⟩ := HR.out
    subst h1_ h2_
    clear HR HOE
    go_wp2
    go_ret2
    exact ⟨none, 0, rfl, SlO.nil _ _ _, Nat.le_refl _, HBA.out _ HB1.out⟩
  by_cases z2 : tz < fr
  · skip
    have HR := Lib.hid (show rL = [] ∧ rE = 1 from by have h_ := HOE.out; rw [ovr_args HZ.out (.inr (.inl z2))] at h_; injection h_ with h1_ h2_; exact ⟨h1_.symm, h2_.symm⟩)
    obtain ⟨h1_, h2_⟩ := HR.out
    subst h1_ h2_
    clear HR HOE
    go_wp2
    go_ret2
    exact ⟨none, 0, rfl, SlO.nil _ _ _, Nat.le_refl _, HBA.out _ HB1.out⟩
  have HE : Hid (∀ (x : Int) W, Below w1.heap.size w1 W → Calls Try.prog 64 #[.int .i64 x] W fun e w' => e = .returned (.bool (noLen x)) ∧ Below W.heap.size W w') := Lib.hid fun x W _ => (osnl_any x W).mono fun e w' h => ⟨h.1, by rw [← h.2]; exact Below.refl _ _⟩
  have HQ := Lib.hid (oct_nl noLen t.edges a.ae t.edges.length a.ce w1 (HT.out _ (HBA.out _ HB1.out)).e (by have := HNN.out.1; omega) HE)
  rw [edges_any] at HQ
  clear HE
  have c0 : w1.cell? ⟨w.heap.size, 0, none⟩ = some (.slice a.ae t.edges.length a.ce) := (H0.out _ HB1.out).cell 0
  obtain ⟨q, hq⟩ : ∃ q, edgesOk t = q := ⟨_, rfl⟩
  rw [hq] at HQ HNE
  have HOK := Lib.hid hq
  clear hq
  obtain ⟨me, hme⟩ : ∃ m, t.edges.length = m := ⟨_, rfl⟩
  rw [hme] at c0 HQ
  have HME := Lib.hid hme
  clear hme
  cases q with
  | false =>
    have HR := Lib.hid (show rL = [] ∧ rE = 1 from by have h_ := HOE.out; rw [ovr_edges HZ.out HOK.out] at h_; injection h_ with h1_ h2_; exact ⟨h1_.symm, h2_.symm⟩)
    obtain ⟨h1_, h2_⟩ := HR.out
    subst h1_ h2_
    clear HR HOE
    rw [Bool.not_false] at HQ
    by_cases z3 : N < tz
    · go_wp2
      go_ret2
      exact ⟨none, 0, rfl, SlO.nil _ _ _, Nat.le_refl _, HBA.out _ HB1.out⟩
    go_wp2_with fail
    refine HQ.out.mono ?_
    rintro e w2 ⟨rfl, hb2⟩
    have HB2 := Lib.hid (HB1.out.trans (hb2.mono HB1.out.size))
    clear hb2 HQ c0
    go_wp2
    go_ret2
    exact ⟨none, 0, rfl, SlO.nil _ _ _, Nat.le_refl _, HBA.out _ HB2.out⟩
  | true =>
    have HNS : Hid (N = sumT t path) := Lib.hid (by rw [HNE.out rfl]; unfold lenN; first | rw [if_pos HZ.out] | simp [HZ.out] | rfl)
    rw [Bool.not_true] at HQ
    by_cases z3 : N < tz
    · skip
      have HR := Lib.hid (show rL = [] ∧ rE = 1 from by have h_ := HOE.out; rw [ovr_args HZ.out (.inr (.inr (by rw [← HNS.out]; exact z3)))] at h_; injection h_ with h1_ h2_; exact ⟨h1_.symm, h2_.symm⟩)
      obtain ⟨h1_, h2_⟩ := HR.out
      subst h1_ h2_
      clear HR HOE
      go_wp2
      go_ret2
      exact ⟨none, 0, rfl, SlO.nil _ _ _, Nat.le_refl _, HBA.out _ HB1.out⟩
    have HR := Lib.hid (show rL = normL (secGo t fr tz path 0) ∧ rE = 0 from by have h_ := HOE.out; rw [over_ok HZ.out HOK.out (by omega) (by omega) (by rw [← HNS.out]; omega)] at h_; injection h_ with h1_ h2_; exact ⟨by rw [sec_norm]; exact h1_.symm, h2_.symm⟩)
    obtain ⟨h1_, h2_⟩ := HR.out
    subst h1_ h2_
    clear HR HOE
    have HWN := Lib.hid (way_nums HZ.out HOK.out)
    have HRA := Lib.hid (show 0 ≤ fr ∧ fr ≤ tz ∧ tz ≤ N from by omega)
    have HNB : Hid (N ≤ 100000000) := Lib.hid (by rw [HNS.out]; have h1_ := sumT_le (t := t) (path := path) (fun s hs => (HWN.out s hs).2.2); have h2_ := HL.out; have h3_ := HNL.out; omega)
    have HED := Lib.hid (way_edges HZ.out)
    clear HZ HOK HNE HLT
    go_wp2_with fail
    refine HQ.out.mono ?_
    rintro e w2 ⟨rfl, hb2⟩
    have HB2 := Lib.hid (HB1.out.trans (hb2.mono HB1.out.size))
    clear hb2 HQ c0 HB1
    go_wp2
    clear z1 z2 z3
    go_loopg [2, 3, 12, 46] n (fun kk v2 v3 v12 v46 wl => ∃ (i : Nat) (X : Option Addr) (x : Nat) (at_ f2 z2 : Int) (q : List Sn3), i ≤ n ∧ n - i ≤ kk ∧ v46 = .int .i64 i ∧ v2 = .int .i64 f2 ∧ v3 = .int .i64 z2 ∧ v12 = .slice X i x ∧ Hid (f2 = fr - at_ ∧ z2 = tz - at_ ∧ 0 ≤ at_ ∧ at_ ≤ i * 1000000) ∧ Hid (q ++ secGo t fr tz (path.drop i) at_ = secGo t fr tz path 0) ∧ Hid (OwR snC 3 80 wa.heap.size wl X i x q) ∧ Hid (Below wa.heap.size wa wl))
    case atStart => exact ⟨0, none, 0, 0, fr, tz, [], by omega, by omega, rfl, rfl, rfl, rfl, Lib.hid (by omega), Lib.hid rfl, Lib.hid (OwR.nil _ _ _ _ _), HB2⟩
    case round =>
      obtain ⟨i, X, x, at_, f2, z2, q, hi, hik, rfl, rfl, rfl, rfl, HAT, HQQ, HO, HB⟩ := hrel
      obtain ⟨k1, hk1⟩ : ∃ k1, k1 = gk := ⟨_, rfl⟩
      subst hk1
      obtain ⟨wv, hwv⟩ : ∃ wv, wv = wr := ⟨_, rfl⟩
      subst hwv
      clear HB2
      by_cases hlt : i < n
      rotate_left
      · obtain rfl : i = n := by omega
        have x1 : ¬ (i : Int) < i := by omega
        have HE : Hid (q = secGo t fr tz path 0) := Lib.hid (by have h_ := HQQ.out; rw [List.drop_of_length_le (by rw [HL.out]; exact Nat.le_refl _)] at h_; simpa [secGo] using h_)
        clear hik hlt
        go_wp2_with fail
        refine (osn_norm q X i x wv HO.out.sl HO.out.cap (by have := HNL.out; omega)).mono ?_
        rw [HE.out]
        rintro e_ w3 ⟨Y, y, rfl, hs1, hc1, hb1⟩
        have HS1 := Lib.hid hs1; have HC1 := Lib.hid hc1; have HB3 := Lib.hid (HB.out.trans (hb1.mono HB.out.size))
        clear hs1 hc1 hb1
        go_wp2
        go_ret2
        exact ⟨Y, y, rfl, HS1.out, HC1.out, HBA.out _ HB3.out⟩
      obtain ⟨s, hs⟩ : ∃ s, path[i]? = some s := ⟨_, List.getElem?_eq_getElem (by rw [HL.out]; exact hlt)⟩
      have HSE := Lib.hid (sec_at (t := t) (fr := fr) (tz := tz) (at_ := at_) hs)
      have HW1 := Lib.hid (HWN.out s (List.mem_of_getElem? hs))
      have hed := HED.out s (List.mem_of_getElem? hs)
      obtain ⟨bk, off, rfl, d0, d1⟩ := (HPA.out _ (HBA.out _ HB.out)).step hs
      clear hs
      obtain ⟨e, hee⟩ : ∃ e : Nat, s.edge = e := ⟨s.edge.toNat, by omega⟩
      have hel : e < t.edges.length := by omega
      have HLA : Hid (lenAt t s = t.edges.getD e 0) := Lib.hid (by unfold lenAt; rw [hee]; first | rfl | simp)
      obtain ⟨ln, hln⟩ : ∃ ln, lenAt t s = ln := ⟨_, rfl⟩
      rw [hln] at HSE HW1 HLA
      obtain ⟨se, sr⟩ := s
      dsimp only at hee hed d0 d1
      subst hee
      clear hln hed
      obtain ⟨f3, hf3⟩ : ∃ f3, f2 - ln = f3 := ⟨_, rfl⟩
      obtain ⟨z3, hz3⟩ : ∃ z3, z2 - ln = z3 := ⟨_, rfl⟩
      have HBD2 : Hid (-1000000000 ≤ f2 ∧ f2 ≤ 1000000000 ∧ -1000000000 ≤ z2 ∧ z2 ≤ 1000000000) := Lib.hid (by have h1_ := HAT.out; have h2_ := HRA.out; have h3_ := HNB.out; have h4_ := HNL.out; omega)
      have hwf : wrap64 (f2 - ln) = f3 := by rw [IntWalk.wrap64_in _ (by have h1_ := HBD2.out; have h2_ := HW1.out; omega)]; exact hf3
      have hwz : wrap64 (z2 - ln) = z3 := by rw [IntWalk.wrap64_in _ (by have h1_ := HBD2.out; have h2_ := HW1.out; omega)]; exact hz3
      have HF3 : Hid (f3 = fr - (at_ + ln) ∧ z3 = tz - (at_ + ln) ∧ 0 ≤ at_ + ln ∧ at_ + ln ≤ ((i + 1 : Nat) : Int) * 1000000) := Lib.hid (by have h1_ := HAT.out; have h2_ := HW1.out; omega)
      have HIN := Lib.hid (show i < n ∧ n - i ≤ k1 from ⟨hlt, hik⟩)
      have HEL := Lib.hid hel
      have x1 : (i : Int) < n := by omega
      have x2 : (0 : Int) ≤ i := by omega
      clear hf3 hz3 hlt hik hel hi
      go_upto_region 10 with fail
      obtain ⟨wb, hwb⟩ : ∃ wb, wv.alloc (.cells #[.int .i64 (e : Nat), .bool sr] 75) = wb := ⟨_, rfl⟩
      rw [hwb]
      have hbb : Below wv.heap.size wv wb := by rw [← hwb]; exact (Below.refl _ _).alloc (Nat.le_refl _) _
      have hH : Has wb wv.heap.size 75 #[.int .i64 (e : Nat), .bool sr] := by rw [← hwb]; exact Has.made _ _ _
      have HWB := Lib.hid (HB.out.trans (hbb.mono HB.out.size))
      have HO1 := Lib.hid (HO.out.under hbb)
      have hc0 : wb.cell? ⟨wv.heap.size, 0, none⟩ = some (.int .i64 (e : Nat)) := hH.cell 0
      have hc1 : wb.cell? ⟨wv.heap.size, 1, none⟩ = some (.bool sr) := hH.cell 1
      obtain ⟨be, oe, hae, ce⟩ := (HT.out _ (HBA.out _ HWB.out)).e.edge HEL.out
      have c0 := (H0.out _ HWB.out).cell 0
      have c0' : wb.cell? ⟨w.heap.size, 0, none⟩ = some (.slice (some ⟨be, oe, none⟩) t.edges.length a.ce) := by first | exact c0.trans (by rw [← hae]; rfl) | (rw [← hae]; exact c0)
      have z0 : (0 : Int) ≤ e := by omega
      have z1 : (e : Int) < t.edges.length := by have := HEL.out; omega
      rw [← HLA.out] at ce
      rw [HME.out] at c0' z1
      clear hwb hbb hH c0 hae d0 d1 HO HB
      go_wp2_with fail
      refine (ossec_any ⟨(e : Nat), sr⟩ ln f2 z2 wb (by have := HW1.out; omega) (by have := HBD2.out; omega) (by have := HBD2.out; omega)).mono ?_
      rintro e_ v1 ⟨rfl, hb1⟩
      have HB1 := Lib.hid (HWB.out.trans (hb1.mono HWB.out.size))
      have HO2 := Lib.hid (HO1.out.under hb1)
      have HZZ := Lib.hid (show secN ⟨(e : Nat), sr⟩ ln (fr - at_) (tz - at_) = secN ⟨(e : Nat), sr⟩ ln f2 z2 from by have h_ := HAT.out; rw [h_.1, h_.2.1])
      rw [HZZ.out] at HSE
      generalize secN ⟨(e : Nat), sr⟩ ln f2 z2 = Z at *
      obtain ⟨ze, zl, zh⟩ := Z
      unfold snA
      dsimp only
      clear hb1 HZZ hc0 hc1 ce c0' z0 z1 HO1 HWB
      obtain ⟨hN, hO, hC, h1, hBD⟩ := pushR (f := snC) (k := 3) (e := 80) (w := v1) 24 ⟨ze, zl, zh⟩ #[.int .i64 ze, .int .i64 zl, .int .i64 zh] rfl rfl (one_sn15 _) HO2.out HB1.out.size (by have h1_ := HIN.out; have h2_ := HNL.out; omega) (by omega)
      have HBW := Lib.hid (show Below wa.heap.size wa (v1.alloc (.cells #[.int .i64 ze, .int .i64 zl, .int .i64 zh] 80)) from HB1.out.alloc HB1.out.size _)
      have HLN := Lib.hid HO2.out.2
      clear HB1
      go_wp2_with (with_reducible refine wpList_push (o := ⟨some 63, _, _, _, _, _⟩) rfl (.tmp 56) (.tmp 62) 39 rfl wa.heap.size 80 (.agg #[.int .i64 0, .int .i64 0, .int .i64 0]) 3 24 Try.underlying39 info_span15 ?hz1 (by decide) X (i) x ((q).flatMap snC) ?hs1 hO ⟨v1.heap.size, 0, none⟩ 1 1 (snC ⟨ze, zl, zh⟩) ?hx1 hN hC h1 hBD ?next1)
      all_goals try rfl
      case next1 =>
        intro A1 c1 v2 ho hg
        have HO3 := Lib.hid (OwR.snoc HLN.out ho.out)
        have HB3 := Lib.hid (below_own HBW.out HBW.out.size hO.out (Nat.le_refl _) rfl hg.out)
        clear ho hg hN hO hC h1 hBD HBW HLN HO2
        go_wp2
        go_roundg (k1 - 1)
        case measure => have := HIN.out; omega
        case rel =>
          exact ⟨i + 1, A1, c1, at_ + ln, f3, z3, q ++ [⟨ze, zl, zh⟩], by have := HIN.out; omega, by have := HIN.out; omega, by rw [IntWalk.wrap64_in _ (by have h1_ := HIN.out; have h2_ := HNL.out; omega)]; go_num, by first | rfl | rw [hwf], by first | rfl | rw [hwz], rfl, HF3, Lib.hid (by have h_ := HQQ.out; rw [HSE.out] at h_; rw [List.append_assoc]; exact h_), HO3, HB3⟩

theorem osn_over (t : Tp3) (a : TpA) (path : List St3) (A : Option Addr) (n c : Nat) (fr tz : Int) (w : World) (ht : TopR w t a) (_ : t.joints.length ≤ a.cj) (hp : SlO stC 2 w A n c path) (hn : n ≤ 100) (_ : n ≤ c) (hl : lightT t = true) (_ : -9223372036854775808 ≤ fr ∧ fr ≤ 9223372036854775807) (_ : -9223372036854775808 ≤ tz ∧ tz ≤ 9223372036854775807) : Calls Try.prog 43 #[.agg (tpC t a), .slice A n c, .int .i64 fr, .int .i64 tz] w fun r w' => ∃ X x, r = .returned (.tuple #[.slice X (overE t path fr tz).1.length x, .int .i64 (overE t path fr tz).2]) ∧ SlO snC 3 w' X (overE t path fr tz).1.length x (overE t path fr tz).1 ∧ (overE t path fr tz).1.length ≤ x ∧ Below w.heap.size w w' := osn_over0 t a path A n c fr tz w ht hp hn hl

end Go.Proofs.Yteioefgckigbcaa
