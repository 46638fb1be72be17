/-
  PdText, PdEnc, PdGet, PdDec: merged.
-/
import Derived.Test.YtekcnmimfhiblaaPdRef
import Derived.Test.YtekcnmimfhiblaaMgB
import Derived.Great.BuildSlice
import Derived.Deep.RegionLaw
import Derived.Deep.RegionHeld3
import Derived.Deep.DeepCutAuto

/-
  linesideref09.Text, by contract.
-/
namespace Go.Proofs.Ytekcnmimfhiblaa
open Go.RowKit

theorem own_lower {w : World} {base base' : Nat} {e : TypeId} {size n : Nat} {v : Value} {xs : List Value} (h : w.ownsRow base e size v n xs) (hb : base' ≤ base) : w.ownsRow base' e size v n xs := by
  refine ⟨h.1, ?_⟩
  rcases h.2 with h1 | ⟨g, cap, cur, e1, hbg, rest⟩
  · exact .inl h1
  · exact .inr ⟨g, cap, cur, e1, by omega, rest⟩
/-- A PDU opened: the block of its cells, and what stands below it. -/
theorem pd_box (p : Pdu) (A : Option Addr) (c : Nat) (w : World) : ∃ wa, w.alloc (.cells #[.int .i64 p.kind, .int .i64 p.dir, .int .i64 p.train, .int .u32 (p.a : Nat), .int .u32 (p.b : Nat), .slice A p.body.length c, .int .u64 (p.mac : Nat)] 30) = wa ∧ Below w.heap.size w wa ∧ wa.heap.size = w.heap.size + 1 ∧ ∀ W, Below wa.heap.size wa W →
    W.cell? ⟨w.heap.size, 0, none⟩ = some (.int .i64 p.kind) ∧ W.cell? ⟨w.heap.size, 1, none⟩ = some (.int .i64 p.dir) ∧ W.cell? ⟨w.heap.size, 2, none⟩ = some (.int .i64 p.train) ∧ W.cell? ⟨w.heap.size, 3, none⟩ = some (.int .u32 (p.a : Nat)) ∧ W.cell? ⟨w.heap.size, 4, none⟩ = some (.int .u32 (p.b : Nat)) ∧ W.cell? ⟨w.heap.size, 5, none⟩ = some (.slice A p.body.length c) ∧ W.cell? ⟨w.heap.size, 6, none⟩ = some (.int .u64 (p.mac : Nat)) :=
  ⟨_, rfl, (Below.refl _ _).alloc (Nat.le_refl _) _, by simp, fun W hW => by
    have h := (Has.made w 30 (pdA p A c)).under hW (by simp)
    exact ⟨h.cell 0, h.cell 1, h.cell 2, h.cell 3, h.cell 4, h.cell 5, h.cell 6⟩⟩

set_option maxRecDepth 100000 in
set_option maxHeartbeats 4000000 in
theorem text1 (t a b : Nat) (body : List Nat) (mac : Nat) (A : Option Addr) (c : Nat) (hk : (⟨1, 0, (t : Nat), a, b, body, mac⟩ : Pdu).ok) (hm : pdMay ⟨1, 0, (t : Nat), a, b, body, mac⟩) (w : World) (hs : Sl w 1 A body.length c (u8s body)) :
    Calls Try.prog 54 #[pdV ⟨1, 0, (t : Nat), a, b, body, mac⟩ A c] w fun e w' => ∃ A' c', e = .returned (.slice A' (0 + 1 + 3 + 4 + body.length) c') ∧ Hid (w'.ownsRow w.heap.size 5 1 (.slice A' (0 + 1 + 3 + 4 + body.length) c') (0 + 1 + 3 + 4 + body.length) (u8s ([] ++ beB 2 1 ++ beB t 3 ++ beB a 4 ++ body))) ∧ Hid (Below w.heap.size w w') := by
  have ht : t ≤ 16777215 := by have h : ((t : Nat) : Int) ≤ 16777215 := hm.2.1; omega
  have ha : a < 4294967296 := hk.1
  have hb : b < 4294967296 := hk.2.1
  have hbl : body.length ≤ 1023 := by have := hm.2.2; unfold pdForm at this; simp only at this; omega
  have HMAY := Lib.hid (fun W => ref_may ⟨1, 0, (t : Nat), a, b, body, mac⟩ A c hk (by simp only; omega) W)
  rw [decide_eq_true hm] at HMAY
  obtain ⟨wa, hwa, hba, hsa, hkc⟩ := pd_box ⟨1, 0, (t : Nat), a, b, body, mac⟩ A c w
  have HBA := Lib.hid hba; have HWA := Lib.hid hwa; have HKC := Lib.hid hkc; have HSA := Lib.hid hsa
  have HS := Lib.hid (fun W (hW : Below w.heap.size w W) => Sl.under hs hW)
  have HOB := Lib.hid (u8s_one body)
  unfold pdV pdA at *
  simp only at HMAY HWA HKC ⊢
  obtain ⟨k0, k1, k2, k3, k4, k5, k6⟩ := HKC.out wa (Below.refl _ _)
  clear hba hwa hkc hsa hs hk hm
  go_enter Try.func54, Try.ntmps54
  go_wp2_with fail
  rw [HWA.out]
  clear HWA
  refine (HMAY.out _).mono ?_
  rintro e w1 ⟨rfl, hb1⟩
  have HB1 := Lib.hid hb1
  have hz1 := hb1.size
  clear k0 k1 k2 k3 k4 k5 k6 hb1 HMAY
  obtain ⟨k0, k1, k2, k3, k4, k5, k6⟩ := HKC.out w1 HB1.out
  have HN1 := Lib.hid (World.ownsRow_nil w1 wa.heap.size 5 1)
  have HP1 := Lib.hid (fun (n : Nat) (N : Int) (hN : N = (n : Nat)) (hn : n < 18446744073709551616) (many : Nat) (M : Int) (hM : M = (many : Nat)) (hmany : many ≤ 8) => ref_put wa.heap.size wa none 0 0 [] n N hN hn many M hM hmany w1 HB1.out hz1 HN1.out (by omega))
  go_wp2_with fail
  refine (HP1.out (2) _ (by simp) (by omega) 1 _ rfl (by decide)).mono ?_
  rintro e w2 ⟨A2, c2, rfl, ho2, hb2⟩
  clear k0 k1 k2 k3 k4 k5 k6 HP1
  obtain ⟨k0, k1, k2, k3, k4, k5, k6⟩ := HKC.out w2 hb2.out
  have hz2 := hb2.out.size
  have HP2 := Lib.hid (fun (n : Nat) (N : Int) (hN : N = (n : Nat)) (hn : n < 18446744073709551616) (many : Nat) (M : Int) (hM : M = (many : Nat)) (hmany : many ≤ 8) => ref_put wa.heap.size wa A2 (0 + 1) c2 ([] ++ beB 2 1) n N hN hn many M hM hmany w2 hb2.out hz2 ho2.out (by omega))
  go_wp2_with fail
  refine (HP2.out (t) _ (by first | rfl | simp | omega) (by omega) 3 _ rfl (by decide)).mono ?_
  rintro e w3 ⟨A3, c3, rfl, ho3, hb3⟩
  clear k0 k1 k2 k3 k4 k5 k6 HP2
  obtain ⟨k0, k1, k2, k3, k4, k5, k6⟩ := HKC.out w3 hb3.out
  have hz3 := hb3.out.size
  have HP3 := Lib.hid (fun (n : Nat) (N : Int) (hN : N = (n : Nat)) (hn : n < 18446744073709551616) (many : Nat) (M : Int) (hM : M = (many : Nat)) (hmany : many ≤ 8) => ref_put wa.heap.size wa A3 (0 + 1 + 3) c3 ([] ++ beB 2 1 ++ beB t 3) n N hN hn many M hM hmany w3 hb3.out hz3 ho3.out (by omega))
  go_wp2_with fail
  refine (HP3.out (a) _ (by first | rfl | simp | omega) (by omega) 4 _ rfl (by decide)).mono ?_
  rintro e w4 ⟨A4, c4, rfl, ho4, hb4⟩
  clear k0 k1 k2 k3 k4 k5 k6 HP3
  obtain ⟨k0, k1, k2, k3, k4, k5, k6⟩ := HKC.out w4 hb4.out
  have hz4 := hb4.out.size
  have HP4 := Lib.hid (fun (n : Nat) (N : Int) (hN : N = (n : Nat)) (hn : n < 18446744073709551616) (many : Nat) (M : Int) (hM : M = (many : Nat)) (hmany : many ≤ 8) => ref_put wa.heap.size wa A4 (0 + 1 + 3 + 4) c4 ([] ++ beB 2 1 ++ beB t 3 ++ beB a 4) n N hN hn many M hM hmany w4 hb4.out hz4 ho4.out (by omega))
  go_upto_region 12 with fail
  have HSB := Lib.hid (HS.out w4 (HBA.out.trans (hb4.out.mono HBA.out.size)))
  have HBD : Hid (0 + 1 + 3 + 4 + body.length ≤ maxLen ∧ (0 + 1 + 3 + 4 + body.length) * 1 ≤ 140737488355328 ∧ wa.heap.size ≤ w4.heap.size) := Lib.hid ⟨by unfold maxLen; omega, by omega, hz4⟩
  go_wp2_with (with_reducible refine wpList_pour (o := ⟨some 50, _, _, _, _, _⟩) rfl (.tmp 47) (.tmp 49) 27 rfl wa.heap.size 5 (.int .u8 0) 1 1 Try.underlying27 info_u8 ?hz (by decide) A4 (0 + 1 + 3 + 4) c4 (u8s ([] ++ beB 2 1 ++ beB t 3 ++ beB a 4)) ?hs ho4 A body.length c (u8s body) ?hx HSB HOB HBD ?next)
  all_goals try rfl
  case next =>
    intro A9 c9 w9 ho9 hg9
    have HB9 := Lib.hid (HBA.out.trans ((below_own hb4.out hz4 ho4.out (Nat.le_refl _) rfl hg9.out).mono HBA.out.size))
    have HO9 := Lib.hid (own_lower ho9.out HBA.out.size)
    clear k0 k1 k2 k3 k4 k5 k6 HP4 ho9 hg9
    go_wp2
    go_ret
    refine ⟨A9, c9, rfl, ?_, HB9⟩
    have h := HO9.out
    rw [← u8s_app] at h
    exact Lib.hid h
set_option maxRecDepth 100000 in
set_option maxHeartbeats 4000000 in
theorem text2 (t a b : Nat) (body : List Nat) (mac : Nat) (A : Option Addr) (c : Nat) (hk : (⟨2, 1, (t : Nat), a, b, body, mac⟩ : Pdu).ok) (hm : pdMay ⟨2, 1, (t : Nat), a, b, body, mac⟩) (w : World) (hs : Sl w 1 A body.length c (u8s body)) :
    Calls Try.prog 54 #[pdV ⟨2, 1, (t : Nat), a, b, body, mac⟩ A c] w fun e w' => ∃ A' c', e = .returned (.slice A' (0 + 1 + 3 + 4 + 4 + body.length) c') ∧ Hid (w'.ownsRow w.heap.size 5 1 (.slice A' (0 + 1 + 3 + 4 + 4 + body.length) c') (0 + 1 + 3 + 4 + 4 + body.length) (u8s ([] ++ beB 5 1 ++ beB t 3 ++ beB a 4 ++ beB b 4 ++ body))) ∧ Hid (Below w.heap.size w w') := by
  have ht : t ≤ 16777215 := by have h : ((t : Nat) : Int) ≤ 16777215 := hm.2.1; omega
  have ha : a < 4294967296 := hk.1
  have hb : b < 4294967296 := hk.2.1
  have hbl : body.length ≤ 1023 := by have := hm.2.2; unfold pdForm at this; simp only at this; omega
  have HMAY := Lib.hid (fun W => ref_may ⟨2, 1, (t : Nat), a, b, body, mac⟩ A c hk (by simp only; omega) W)
  rw [decide_eq_true hm] at HMAY
  obtain ⟨wa, hwa, hba, hsa, hkc⟩ := pd_box ⟨2, 1, (t : Nat), a, b, body, mac⟩ A c w
  have HBA := Lib.hid hba; have HWA := Lib.hid hwa; have HKC := Lib.hid hkc; have HSA := Lib.hid hsa
  have HS := Lib.hid (fun W (hW : Below w.heap.size w W) => Sl.under hs hW)
  have HOB := Lib.hid (u8s_one body)
  unfold pdV pdA at *
  simp only at HMAY HWA HKC ⊢
  obtain ⟨k0, k1, k2, k3, k4, k5, k6⟩ := HKC.out wa (Below.refl _ _)
  clear hba hwa hkc hsa hs hk hm
  go_enter Try.func54, Try.ntmps54
  go_wp2_with fail
  rw [HWA.out]
  clear HWA
  refine (HMAY.out _).mono ?_
  rintro e w1 ⟨rfl, hb1⟩
  have HB1 := Lib.hid hb1
  have hz1 := hb1.size
  clear k0 k1 k2 k3 k4 k5 k6 hb1 HMAY
  obtain ⟨k0, k1, k2, k3, k4, k5, k6⟩ := HKC.out w1 HB1.out
  have HN1 := Lib.hid (World.ownsRow_nil w1 wa.heap.size 5 1)
  have HP1 := Lib.hid (fun (n : Nat) (N : Int) (hN : N = (n : Nat)) (hn : n < 18446744073709551616) (many : Nat) (M : Int) (hM : M = (many : Nat)) (hmany : many ≤ 8) => ref_put wa.heap.size wa none 0 0 [] n N hN hn many M hM hmany w1 HB1.out hz1 HN1.out (by omega))
  go_wp2_with fail
  refine (HP1.out (5) _ (by simp) (by omega) 1 _ rfl (by decide)).mono ?_
  rintro e w2 ⟨A2, c2, rfl, ho2, hb2⟩
  clear k0 k1 k2 k3 k4 k5 k6 HP1
  obtain ⟨k0, k1, k2, k3, k4, k5, k6⟩ := HKC.out w2 hb2.out
  have hz2 := hb2.out.size
  have HP2 := Lib.hid (fun (n : Nat) (N : Int) (hN : N = (n : Nat)) (hn : n < 18446744073709551616) (many : Nat) (M : Int) (hM : M = (many : Nat)) (hmany : many ≤ 8) => ref_put wa.heap.size wa A2 (0 + 1) c2 ([] ++ beB 5 1) n N hN hn many M hM hmany w2 hb2.out hz2 ho2.out (by omega))
  go_wp2_with fail
  refine (HP2.out (t) _ (by first | rfl | simp | omega) (by omega) 3 _ rfl (by decide)).mono ?_
  rintro e w3 ⟨A3, c3, rfl, ho3, hb3⟩
  clear k0 k1 k2 k3 k4 k5 k6 HP2
  obtain ⟨k0, k1, k2, k3, k4, k5, k6⟩ := HKC.out w3 hb3.out
  have hz3 := hb3.out.size
  have HP3 := Lib.hid (fun (n : Nat) (N : Int) (hN : N = (n : Nat)) (hn : n < 18446744073709551616) (many : Nat) (M : Int) (hM : M = (many : Nat)) (hmany : many ≤ 8) => ref_put wa.heap.size wa A3 (0 + 1 + 3) c3 ([] ++ beB 5 1 ++ beB t 3) n N hN hn many M hM hmany w3 hb3.out hz3 ho3.out (by omega))
  go_wp2_with fail
  refine (HP3.out (a) _ (by first | rfl | simp | omega) (by omega) 4 _ rfl (by decide)).mono ?_
  rintro e w4 ⟨A4, c4, rfl, ho4, hb4⟩
  clear k0 k1 k2 k3 k4 k5 k6 HP3
  obtain ⟨k0, k1, k2, k3, k4, k5, k6⟩ := HKC.out w4 hb4.out
  have hz4 := hb4.out.size
  have HP4 := Lib.hid (fun (n : Nat) (N : Int) (hN : N = (n : Nat)) (hn : n < 18446744073709551616) (many : Nat) (M : Int) (hM : M = (many : Nat)) (hmany : many ≤ 8) => ref_put wa.heap.size wa A4 (0 + 1 + 3 + 4) c4 ([] ++ beB 5 1 ++ beB t 3 ++ beB a 4) n N hN hn many M hM hmany w4 hb4.out hz4 ho4.out (by omega))
  go_wp2_with fail
  refine (HP4.out (b) _ (by first | rfl | simp | omega) (by omega) 4 _ rfl (by decide)).mono ?_
  rintro e w5 ⟨A5, c5, rfl, ho5, hb5⟩
  clear k0 k1 k2 k3 k4 k5 k6 HP4
  obtain ⟨k0, k1, k2, k3, k4, k5, k6⟩ := HKC.out w5 hb5.out
  have hz5 := hb5.out.size
  have HP5 := Lib.hid (fun (n : Nat) (N : Int) (hN : N = (n : Nat)) (hn : n < 18446744073709551616) (many : Nat) (M : Int) (hM : M = (many : Nat)) (hmany : many ≤ 8) => ref_put wa.heap.size wa A5 (0 + 1 + 3 + 4 + 4) c5 ([] ++ beB 5 1 ++ beB t 3 ++ beB a 4 ++ beB b 4) n N hN hn many M hM hmany w5 hb5.out hz5 ho5.out (by omega))
  go_upto_region 12 with fail
  have HSB := Lib.hid (HS.out w5 (HBA.out.trans (hb5.out.mono HBA.out.size)))
  have HBD : Hid (0 + 1 + 3 + 4 + 4 + body.length ≤ maxLen ∧ (0 + 1 + 3 + 4 + 4 + body.length) * 1 ≤ 140737488355328 ∧ wa.heap.size ≤ w5.heap.size) := Lib.hid ⟨by unfold maxLen; omega, by omega, hz5⟩
  go_wp2_with (with_reducible refine wpList_pour (o := ⟨some 50, _, _, _, _, _⟩) rfl (.tmp 47) (.tmp 49) 27 rfl wa.heap.size 5 (.int .u8 0) 1 1 Try.underlying27 info_u8 ?hz (by decide) A5 (0 + 1 + 3 + 4 + 4) c5 (u8s ([] ++ beB 5 1 ++ beB t 3 ++ beB a 4 ++ beB b 4)) ?hs ho5 A body.length c (u8s body) ?hx HSB HOB HBD ?next)
  all_goals try rfl
  case next =>
    intro A9 c9 w9 ho9 hg9
    have HB9 := Lib.hid (HBA.out.trans ((below_own hb5.out hz5 ho5.out (Nat.le_refl _) rfl hg9.out).mono HBA.out.size))
    have HO9 := Lib.hid (own_lower ho9.out HBA.out.size)
    clear k0 k1 k2 k3 k4 k5 k6 HP5 ho9 hg9
    go_wp2
    go_ret
    refine ⟨A9, c9, rfl, ?_, HB9⟩
    have h := HO9.out
    rw [← u8s_app] at h
    exact Lib.hid h
set_option maxRecDepth 100000 in
set_option maxHeartbeats 4000000 in
theorem text3 (t a b : Nat) (body : List Nat) (mac : Nat) (A : Option Addr) (c : Nat) (hk : (⟨3, 0, (t : Nat), a, b, body, mac⟩ : Pdu).ok) (hm : pdMay ⟨3, 0, (t : Nat), a, b, body, mac⟩) (w : World) (hs : Sl w 1 A body.length c (u8s body)) :
    Calls Try.prog 54 #[pdV ⟨3, 0, (t : Nat), a, b, body, mac⟩ A c] w fun e w' => ∃ A' c', e = .returned (.slice A' (0 + 1 + 3 + 4 + 4 + body.length) c') ∧ Hid (w'.ownsRow w.heap.size 5 1 (.slice A' (0 + 1 + 3 + 4 + 4 + body.length) c') (0 + 1 + 3 + 4 + 4 + body.length) (u8s ([] ++ beB 6 1 ++ beB t 3 ++ beB a 4 ++ beB b 4 ++ body))) ∧ Hid (Below w.heap.size w w') := by
  have ht : t ≤ 16777215 := by have h : ((t : Nat) : Int) ≤ 16777215 := hm.2.1; omega
  have ha : a < 4294967296 := hk.1
  have hb : b < 4294967296 := hk.2.1
  have hbl : body.length ≤ 1023 := by have := hm.2.2; unfold pdForm at this; simp only at this; omega
  have HMAY := Lib.hid (fun W => ref_may ⟨3, 0, (t : Nat), a, b, body, mac⟩ A c hk (by simp only; omega) W)
  rw [decide_eq_true hm] at HMAY
  obtain ⟨wa, hwa, hba, hsa, hkc⟩ := pd_box ⟨3, 0, (t : Nat), a, b, body, mac⟩ A c w
  have HBA := Lib.hid hba; have HWA := Lib.hid hwa; have HKC := Lib.hid hkc; have HSA := Lib.hid hsa
  have HS := Lib.hid (fun W (hW : Below w.heap.size w W) => Sl.under hs hW)
  have HOB := Lib.hid (u8s_one body)
  unfold pdV pdA at *
  simp only at HMAY HWA HKC ⊢
  obtain ⟨k0, k1, k2, k3, k4, k5, k6⟩ := HKC.out wa (Below.refl _ _)
  clear hba hwa hkc hsa hs hk hm
  go_enter Try.func54, Try.ntmps54
  go_wp2_with fail
  rw [HWA.out]
  clear HWA
  refine (HMAY.out _).mono ?_
  rintro e w1 ⟨rfl, hb1⟩
  have HB1 := Lib.hid hb1
  have hz1 := hb1.size
  clear k0 k1 k2 k3 k4 k5 k6 hb1 HMAY
  obtain ⟨k0, k1, k2, k3, k4, k5, k6⟩ := HKC.out w1 HB1.out
  have HN1 := Lib.hid (World.ownsRow_nil w1 wa.heap.size 5 1)
  have HP1 := Lib.hid (fun (n : Nat) (N : Int) (hN : N = (n : Nat)) (hn : n < 18446744073709551616) (many : Nat) (M : Int) (hM : M = (many : Nat)) (hmany : many ≤ 8) => ref_put wa.heap.size wa none 0 0 [] n N hN hn many M hM hmany w1 HB1.out hz1 HN1.out (by omega))
  go_wp2_with fail
  refine (HP1.out (6) _ (by simp) (by omega) 1 _ rfl (by decide)).mono ?_
  rintro e w2 ⟨A2, c2, rfl, ho2, hb2⟩
  clear k0 k1 k2 k3 k4 k5 k6 HP1
  obtain ⟨k0, k1, k2, k3, k4, k5, k6⟩ := HKC.out w2 hb2.out
  have hz2 := hb2.out.size
  have HP2 := Lib.hid (fun (n : Nat) (N : Int) (hN : N = (n : Nat)) (hn : n < 18446744073709551616) (many : Nat) (M : Int) (hM : M = (many : Nat)) (hmany : many ≤ 8) => ref_put wa.heap.size wa A2 (0 + 1) c2 ([] ++ beB 6 1) n N hN hn many M hM hmany w2 hb2.out hz2 ho2.out (by omega))
  go_wp2_with fail
  refine (HP2.out (t) _ (by first | rfl | simp | omega) (by omega) 3 _ rfl (by decide)).mono ?_
  rintro e w3 ⟨A3, c3, rfl, ho3, hb3⟩
  clear k0 k1 k2 k3 k4 k5 k6 HP2
  obtain ⟨k0, k1, k2, k3, k4, k5, k6⟩ := HKC.out w3 hb3.out
  have hz3 := hb3.out.size
  have HP3 := Lib.hid (fun (n : Nat) (N : Int) (hN : N = (n : Nat)) (hn : n < 18446744073709551616) (many : Nat) (M : Int) (hM : M = (many : Nat)) (hmany : many ≤ 8) => ref_put wa.heap.size wa A3 (0 + 1 + 3) c3 ([] ++ beB 6 1 ++ beB t 3) n N hN hn many M hM hmany w3 hb3.out hz3 ho3.out (by omega))
  go_wp2_with fail
  refine (HP3.out (a) _ (by first | rfl | simp | omega) (by omega) 4 _ rfl (by decide)).mono ?_
  rintro e w4 ⟨A4, c4, rfl, ho4, hb4⟩
  clear k0 k1 k2 k3 k4 k5 k6 HP3
  obtain ⟨k0, k1, k2, k3, k4, k5, k6⟩ := HKC.out w4 hb4.out
  have hz4 := hb4.out.size
  have HP4 := Lib.hid (fun (n : Nat) (N : Int) (hN : N = (n : Nat)) (hn : n < 18446744073709551616) (many : Nat) (M : Int) (hM : M = (many : Nat)) (hmany : many ≤ 8) => ref_put wa.heap.size wa A4 (0 + 1 + 3 + 4) c4 ([] ++ beB 6 1 ++ beB t 3 ++ beB a 4) n N hN hn many M hM hmany w4 hb4.out hz4 ho4.out (by omega))
  go_wp2_with fail
  refine (HP4.out (b) _ (by first | rfl | simp | omega) (by omega) 4 _ rfl (by decide)).mono ?_
  rintro e w5 ⟨A5, c5, rfl, ho5, hb5⟩
  clear k0 k1 k2 k3 k4 k5 k6 HP4
  obtain ⟨k0, k1, k2, k3, k4, k5, k6⟩ := HKC.out w5 hb5.out
  have hz5 := hb5.out.size
  have HP5 := Lib.hid (fun (n : Nat) (N : Int) (hN : N = (n : Nat)) (hn : n < 18446744073709551616) (many : Nat) (M : Int) (hM : M = (many : Nat)) (hmany : many ≤ 8) => ref_put wa.heap.size wa A5 (0 + 1 + 3 + 4 + 4) c5 ([] ++ beB 6 1 ++ beB t 3 ++ beB a 4 ++ beB b 4) n N hN hn many M hM hmany w5 hb5.out hz5 ho5.out (by omega))
  go_upto_region 12 with fail
  have HSB := Lib.hid (HS.out w5 (HBA.out.trans (hb5.out.mono HBA.out.size)))
  have HBD : Hid (0 + 1 + 3 + 4 + 4 + body.length ≤ maxLen ∧ (0 + 1 + 3 + 4 + 4 + body.length) * 1 ≤ 140737488355328 ∧ wa.heap.size ≤ w5.heap.size) := Lib.hid ⟨by unfold maxLen; omega, by omega, hz5⟩
  go_wp2_with (with_reducible refine wpList_pour (o := ⟨some 50, _, _, _, _, _⟩) rfl (.tmp 47) (.tmp 49) 27 rfl wa.heap.size 5 (.int .u8 0) 1 1 Try.underlying27 info_u8 ?hz (by decide) A5 (0 + 1 + 3 + 4 + 4) c5 (u8s ([] ++ beB 6 1 ++ beB t 3 ++ beB a 4 ++ beB b 4)) ?hs ho5 A body.length c (u8s body) ?hx HSB HOB HBD ?next)
  all_goals try rfl
  case next =>
    intro A9 c9 w9 ho9 hg9
    have HB9 := Lib.hid (HBA.out.trans ((below_own hb5.out hz5 ho5.out (Nat.le_refl _) rfl hg9.out).mono HBA.out.size))
    have HO9 := Lib.hid (own_lower ho9.out HBA.out.size)
    clear k0 k1 k2 k3 k4 k5 k6 HP5 ho9 hg9
    go_wp2
    go_ret
    refine ⟨A9, c9, rfl, ?_, HB9⟩
    have h := HO9.out
    rw [← u8s_app] at h
    exact Lib.hid h
set_option maxRecDepth 100000 in
set_option maxHeartbeats 4000000 in
theorem text50 (t a b : Nat) (body : List Nat) (mac : Nat) (A : Option Addr) (c : Nat) (hk : (⟨5, 0, (t : Nat), a, b, body, mac⟩ : Pdu).ok) (hm : pdMay ⟨5, 0, (t : Nat), a, b, body, mac⟩) (w : World) (hs : Sl w 1 A body.length c (u8s body)) :
    Calls Try.prog 54 #[pdV ⟨5, 0, (t : Nat), a, b, body, mac⟩ A c] w fun e w' => ∃ A' c', e = .returned (.slice A' (0 + 1 + 3 + 4 + 2 + body.length) c') ∧ Hid (w'.ownsRow w.heap.size 5 1 (.slice A' (0 + 1 + 3 + 4 + 2 + body.length) c') (0 + 1 + 3 + 4 + 2 + body.length) (u8s ([] ++ beB 10 1 ++ beB t 3 ++ beB b 4 ++ beB body.length 2 ++ body))) ∧ Hid (Below w.heap.size w w') := by
  have ht : t ≤ 16777215 := by have h : ((t : Nat) : Int) ≤ 16777215 := hm.2.1; omega
  have ha : a < 4294967296 := hk.1
  have hb : b < 4294967296 := hk.2.1
  have hbl : body.length ≤ 1023 := by have := hm.2.2; unfold pdForm at this; simp only at this; omega
  have HMAY := Lib.hid (fun W => ref_may ⟨5, 0, (t : Nat), a, b, body, mac⟩ A c hk (by simp only; omega) W)
  rw [decide_eq_true hm] at HMAY
  obtain ⟨wa, hwa, hba, hsa, hkc⟩ := pd_box ⟨5, 0, (t : Nat), a, b, body, mac⟩ A c w
  have HBA := Lib.hid hba; have HWA := Lib.hid hwa; have HKC := Lib.hid hkc; have HSA := Lib.hid hsa
  have HS := Lib.hid (fun W (hW : Below w.heap.size w W) => Sl.under hs hW)
  have HOB := Lib.hid (u8s_one body)
  unfold pdV pdA at *
  simp only at HMAY HWA HKC ⊢
  obtain ⟨k0, k1, k2, k3, k4, k5, k6⟩ := HKC.out wa (Below.refl _ _)
  clear hba hwa hkc hsa hs hk hm
  go_enter Try.func54, Try.ntmps54
  go_wp2_with fail
  rw [HWA.out]
  clear HWA
  refine (HMAY.out _).mono ?_
  rintro e w1 ⟨rfl, hb1⟩
  have HB1 := Lib.hid hb1
  have hz1 := hb1.size
  clear k0 k1 k2 k3 k4 k5 k6 hb1 HMAY
  obtain ⟨k0, k1, k2, k3, k4, k5, k6⟩ := HKC.out w1 HB1.out
  have HN1 := Lib.hid (World.ownsRow_nil w1 wa.heap.size 5 1)
  have HP1 := Lib.hid (fun (n : Nat) (N : Int) (hN : N = (n : Nat)) (hn : n < 18446744073709551616) (many : Nat) (M : Int) (hM : M = (many : Nat)) (hmany : many ≤ 8) => ref_put wa.heap.size wa none 0 0 [] n N hN hn many M hM hmany w1 HB1.out hz1 HN1.out (by omega))
  go_wp2_with fail
  refine (HP1.out (10) _ (by simp) (by omega) 1 _ rfl (by decide)).mono ?_
  rintro e w2 ⟨A2, c2, rfl, ho2, hb2⟩
  clear k0 k1 k2 k3 k4 k5 k6 HP1
  obtain ⟨k0, k1, k2, k3, k4, k5, k6⟩ := HKC.out w2 hb2.out
  have hz2 := hb2.out.size
  have HP2 := Lib.hid (fun (n : Nat) (N : Int) (hN : N = (n : Nat)) (hn : n < 18446744073709551616) (many : Nat) (M : Int) (hM : M = (many : Nat)) (hmany : many ≤ 8) => ref_put wa.heap.size wa A2 (0 + 1) c2 ([] ++ beB 10 1) n N hN hn many M hM hmany w2 hb2.out hz2 ho2.out (by omega))
  go_wp2_with fail
  refine (HP2.out (t) _ (by first | rfl | simp | omega) (by omega) 3 _ rfl (by decide)).mono ?_
  rintro e w3 ⟨A3, c3, rfl, ho3, hb3⟩
  clear k0 k1 k2 k3 k4 k5 k6 HP2
  obtain ⟨k0, k1, k2, k3, k4, k5, k6⟩ := HKC.out w3 hb3.out
  have hz3 := hb3.out.size
  have HP3 := Lib.hid (fun (n : Nat) (N : Int) (hN : N = (n : Nat)) (hn : n < 18446744073709551616) (many : Nat) (M : Int) (hM : M = (many : Nat)) (hmany : many ≤ 8) => ref_put wa.heap.size wa A3 (0 + 1 + 3) c3 ([] ++ beB 10 1 ++ beB t 3) n N hN hn many M hM hmany w3 hb3.out hz3 ho3.out (by omega))
  go_wp2_with fail
  refine (HP3.out (b) _ (by first | rfl | simp | omega) (by omega) 4 _ rfl (by decide)).mono ?_
  rintro e w4 ⟨A4, c4, rfl, ho4, hb4⟩
  clear k0 k1 k2 k3 k4 k5 k6 HP3
  obtain ⟨k0, k1, k2, k3, k4, k5, k6⟩ := HKC.out w4 hb4.out
  have hz4 := hb4.out.size
  have HP4 := Lib.hid (fun (n : Nat) (N : Int) (hN : N = (n : Nat)) (hn : n < 18446744073709551616) (many : Nat) (M : Int) (hM : M = (many : Nat)) (hmany : many ≤ 8) => ref_put wa.heap.size wa A4 (0 + 1 + 3 + 4) c4 ([] ++ beB 10 1 ++ beB t 3 ++ beB b 4) n N hN hn many M hM hmany w4 hb4.out hz4 ho4.out (by omega))
  go_wp2_with fail
  refine (HP4.out (body.length) _ (by first | rfl | simp | omega) (by omega) 2 _ rfl (by decide)).mono ?_
  rintro e w5 ⟨A5, c5, rfl, ho5, hb5⟩
  clear k0 k1 k2 k3 k4 k5 k6 HP4
  obtain ⟨k0, k1, k2, k3, k4, k5, k6⟩ := HKC.out w5 hb5.out
  have hz5 := hb5.out.size
  have HP5 := Lib.hid (fun (n : Nat) (N : Int) (hN : N = (n : Nat)) (hn : n < 18446744073709551616) (many : Nat) (M : Int) (hM : M = (many : Nat)) (hmany : many ≤ 8) => ref_put wa.heap.size wa A5 (0 + 1 + 3 + 4 + 2) c5 ([] ++ beB 10 1 ++ beB t 3 ++ beB b 4 ++ beB body.length 2) n N hN hn many M hM hmany w5 hb5.out hz5 ho5.out (by omega))
  go_upto_region 12 with fail
  have HSB := Lib.hid (HS.out w5 (HBA.out.trans (hb5.out.mono HBA.out.size)))
  have HBD : Hid (0 + 1 + 3 + 4 + 2 + body.length ≤ maxLen ∧ (0 + 1 + 3 + 4 + 2 + body.length) * 1 ≤ 140737488355328 ∧ wa.heap.size ≤ w5.heap.size) := Lib.hid ⟨by unfold maxLen; omega, by omega, hz5⟩
  go_wp2_with (with_reducible refine wpList_pour (o := ⟨some 50, _, _, _, _, _⟩) rfl (.tmp 47) (.tmp 49) 27 rfl wa.heap.size 5 (.int .u8 0) 1 1 Try.underlying27 info_u8 ?hz (by decide) A5 (0 + 1 + 3 + 4 + 2) c5 (u8s ([] ++ beB 10 1 ++ beB t 3 ++ beB b 4 ++ beB body.length 2)) ?hs ho5 A body.length c (u8s body) ?hx HSB HOB HBD ?next)
  all_goals try rfl
  case next =>
    intro A9 c9 w9 ho9 hg9
    have HB9 := Lib.hid (HBA.out.trans ((below_own hb5.out hz5 ho5.out (Nat.le_refl _) rfl hg9.out).mono HBA.out.size))
    have HO9 := Lib.hid (own_lower ho9.out HBA.out.size)
    clear k0 k1 k2 k3 k4 k5 k6 HP5 ho9 hg9
    go_wp2
    go_ret
    refine ⟨A9, c9, rfl, ?_, HB9⟩
    have h := HO9.out
    rw [← u8s_app] at h
    exact Lib.hid h
set_option maxRecDepth 100000 in
set_option maxHeartbeats 4000000 in
theorem text51 (t a b : Nat) (body : List Nat) (mac : Nat) (A : Option Addr) (c : Nat) (hk : (⟨5, 1, (t : Nat), a, b, body, mac⟩ : Pdu).ok) (hm : pdMay ⟨5, 1, (t : Nat), a, b, body, mac⟩) (w : World) (hs : Sl w 1 A body.length c (u8s body)) :
    Calls Try.prog 54 #[pdV ⟨5, 1, (t : Nat), a, b, body, mac⟩ A c] w fun e w' => ∃ A' c', e = .returned (.slice A' (0 + 1 + 3 + 4 + 2 + body.length) c') ∧ Hid (w'.ownsRow w.heap.size 5 1 (.slice A' (0 + 1 + 3 + 4 + 2 + body.length) c') (0 + 1 + 3 + 4 + 2 + body.length) (u8s ([] ++ beB 11 1 ++ beB t 3 ++ beB b 4 ++ beB body.length 2 ++ body))) ∧ Hid (Below w.heap.size w w') := by
  have ht : t ≤ 16777215 := by have h : ((t : Nat) : Int) ≤ 16777215 := hm.2.1; omega
  have ha : a < 4294967296 := hk.1
  have hb : b < 4294967296 := hk.2.1
  have hbl : body.length ≤ 1023 := by have := hm.2.2; unfold pdForm at this; simp only at this; omega
  have HMAY := Lib.hid (fun W => ref_may ⟨5, 1, (t : Nat), a, b, body, mac⟩ A c hk (by simp only; omega) W)
  rw [decide_eq_true hm] at HMAY
  obtain ⟨wa, hwa, hba, hsa, hkc⟩ := pd_box ⟨5, 1, (t : Nat), a, b, body, mac⟩ A c w
  have HBA := Lib.hid hba; have HWA := Lib.hid hwa; have HKC := Lib.hid hkc; have HSA := Lib.hid hsa
  have HS := Lib.hid (fun W (hW : Below w.heap.size w W) => Sl.under hs hW)
  have HOB := Lib.hid (u8s_one body)
  unfold pdV pdA at *
  simp only at HMAY HWA HKC ⊢
  obtain ⟨k0, k1, k2, k3, k4, k5, k6⟩ := HKC.out wa (Below.refl _ _)
  clear hba hwa hkc hsa hs hk hm
  go_enter Try.func54, Try.ntmps54
  go_wp2_with fail
  rw [HWA.out]
  clear HWA
  refine (HMAY.out _).mono ?_
  rintro e w1 ⟨rfl, hb1⟩
  have HB1 := Lib.hid hb1
  have hz1 := hb1.size
  clear k0 k1 k2 k3 k4 k5 k6 hb1 HMAY
  obtain ⟨k0, k1, k2, k3, k4, k5, k6⟩ := HKC.out w1 HB1.out
  have HN1 := Lib.hid (World.ownsRow_nil w1 wa.heap.size 5 1)
  have HP1 := Lib.hid (fun (n : Nat) (N : Int) (hN : N = (n : Nat)) (hn : n < 18446744073709551616) (many : Nat) (M : Int) (hM : M = (many : Nat)) (hmany : many ≤ 8) => ref_put wa.heap.size wa none 0 0 [] n N hN hn many M hM hmany w1 HB1.out hz1 HN1.out (by omega))
  go_wp2_with fail
  refine (HP1.out (11) _ (by simp) (by omega) 1 _ rfl (by decide)).mono ?_
  rintro e w2 ⟨A2, c2, rfl, ho2, hb2⟩
  clear k0 k1 k2 k3 k4 k5 k6 HP1
  obtain ⟨k0, k1, k2, k3, k4, k5, k6⟩ := HKC.out w2 hb2.out
  have hz2 := hb2.out.size
  have HP2 := Lib.hid (fun (n : Nat) (N : Int) (hN : N = (n : Nat)) (hn : n < 18446744073709551616) (many : Nat) (M : Int) (hM : M = (many : Nat)) (hmany : many ≤ 8) => ref_put wa.heap.size wa A2 (0 + 1) c2 ([] ++ beB 11 1) n N hN hn many M hM hmany w2 hb2.out hz2 ho2.out (by omega))
  go_wp2_with fail
  refine (HP2.out (t) _ (by first | rfl | simp | omega) (by omega) 3 _ rfl (by decide)).mono ?_
  rintro e w3 ⟨A3, c3, rfl, ho3, hb3⟩
  clear k0 k1 k2 k3 k4 k5 k6 HP2
  obtain ⟨k0, k1, k2, k3, k4, k5, k6⟩ := HKC.out w3 hb3.out
  have hz3 := hb3.out.size
  have HP3 := Lib.hid (fun (n : Nat) (N : Int) (hN : N = (n : Nat)) (hn : n < 18446744073709551616) (many : Nat) (M : Int) (hM : M = (many : Nat)) (hmany : many ≤ 8) => ref_put wa.heap.size wa A3 (0 + 1 + 3) c3 ([] ++ beB 11 1 ++ beB t 3) n N hN hn many M hM hmany w3 hb3.out hz3 ho3.out (by omega))
  go_wp2_with fail
  refine (HP3.out (b) _ (by first | rfl | simp | omega) (by omega) 4 _ rfl (by decide)).mono ?_
  rintro e w4 ⟨A4, c4, rfl, ho4, hb4⟩
  clear k0 k1 k2 k3 k4 k5 k6 HP3
  obtain ⟨k0, k1, k2, k3, k4, k5, k6⟩ := HKC.out w4 hb4.out
  have hz4 := hb4.out.size
  have HP4 := Lib.hid (fun (n : Nat) (N : Int) (hN : N = (n : Nat)) (hn : n < 18446744073709551616) (many : Nat) (M : Int) (hM : M = (many : Nat)) (hmany : many ≤ 8) => ref_put wa.heap.size wa A4 (0 + 1 + 3 + 4) c4 ([] ++ beB 11 1 ++ beB t 3 ++ beB b 4) n N hN hn many M hM hmany w4 hb4.out hz4 ho4.out (by omega))
  go_wp2_with fail
  refine (HP4.out (body.length) _ (by first | rfl | simp | omega) (by omega) 2 _ rfl (by decide)).mono ?_
  rintro e w5 ⟨A5, c5, rfl, ho5, hb5⟩
  clear k0 k1 k2 k3 k4 k5 k6 HP4
  obtain ⟨k0, k1, k2, k3, k4, k5, k6⟩ := HKC.out w5 hb5.out
  have hz5 := hb5.out.size
  have HP5 := Lib.hid (fun (n : Nat) (N : Int) (hN : N = (n : Nat)) (hn : n < 18446744073709551616) (many : Nat) (M : Int) (hM : M = (many : Nat)) (hmany : many ≤ 8) => ref_put wa.heap.size wa A5 (0 + 1 + 3 + 4 + 2) c5 ([] ++ beB 11 1 ++ beB t 3 ++ beB b 4 ++ beB body.length 2) n N hN hn many M hM hmany w5 hb5.out hz5 ho5.out (by omega))
  go_upto_region 12 with fail
  have HSB := Lib.hid (HS.out w5 (HBA.out.trans (hb5.out.mono HBA.out.size)))
  have HBD : Hid (0 + 1 + 3 + 4 + 2 + body.length ≤ maxLen ∧ (0 + 1 + 3 + 4 + 2 + body.length) * 1 ≤ 140737488355328 ∧ wa.heap.size ≤ w5.heap.size) := Lib.hid ⟨by unfold maxLen; omega, by omega, hz5⟩
  go_wp2_with (with_reducible refine wpList_pour (o := ⟨some 50, _, _, _, _, _⟩) rfl (.tmp 47) (.tmp 49) 27 rfl wa.heap.size 5 (.int .u8 0) 1 1 Try.underlying27 info_u8 ?hz (by decide) A5 (0 + 1 + 3 + 4 + 2) c5 (u8s ([] ++ beB 11 1 ++ beB t 3 ++ beB b 4 ++ beB body.length 2)) ?hs ho5 A body.length c (u8s body) ?hx HSB HOB HBD ?next)
  all_goals try rfl
  case next =>
    intro A9 c9 w9 ho9 hg9
    have HB9 := Lib.hid (HBA.out.trans ((below_own hb5.out hz5 ho5.out (Nat.le_refl _) rfl hg9.out).mono HBA.out.size))
    have HO9 := Lib.hid (own_lower ho9.out HBA.out.size)
    clear k0 k1 k2 k3 k4 k5 k6 HP5 ho9 hg9
    go_wp2
    go_ret
    refine ⟨A9, c9, rfl, ?_, HB9⟩
    have h := HO9.out
    rw [← u8s_app] at h
    exact Lib.hid h
set_option maxRecDepth 100000 in
set_option maxHeartbeats 4000000 in
theorem text60 (t a b : Nat) (body : List Nat) (mac : Nat) (A : Option Addr) (c : Nat) (hk : (⟨6, 0, (t : Nat), a, b, body, mac⟩ : Pdu).ok) (hm : pdMay ⟨6, 0, (t : Nat), a, b, body, mac⟩) (w : World) (hs : Sl w 1 A body.length c (u8s body)) :
    Calls Try.prog 54 #[pdV ⟨6, 0, (t : Nat), a, b, body, mac⟩ A c] w fun e w' => ∃ A' c', e = .returned (.slice A' (0 + 1 + 3 + 4 + body.length) c') ∧ Hid (w'.ownsRow w.heap.size 5 1 (.slice A' (0 + 1 + 3 + 4 + body.length) c') (0 + 1 + 3 + 4 + body.length) (u8s ([] ++ beB 12 1 ++ beB t 3 ++ beB b 4 ++ body))) ∧ Hid (Below w.heap.size w w') := by
  have ht : t ≤ 16777215 := by have h : ((t : Nat) : Int) ≤ 16777215 := hm.2.1; omega
  have ha : a < 4294967296 := hk.1
  have hb : b < 4294967296 := hk.2.1
  have hbl : body.length ≤ 1023 := by have := hm.2.2; unfold pdForm at this; simp only at this; omega
  have HMAY := Lib.hid (fun W => ref_may ⟨6, 0, (t : Nat), a, b, body, mac⟩ A c hk (by simp only; omega) W)
  rw [decide_eq_true hm] at HMAY
  obtain ⟨wa, hwa, hba, hsa, hkc⟩ := pd_box ⟨6, 0, (t : Nat), a, b, body, mac⟩ A c w
  have HBA := Lib.hid hba; have HWA := Lib.hid hwa; have HKC := Lib.hid hkc; have HSA := Lib.hid hsa
  have HS := Lib.hid (fun W (hW : Below w.heap.size w W) => Sl.under hs hW)
  have HOB := Lib.hid (u8s_one body)
  unfold pdV pdA at *
  simp only at HMAY HWA HKC ⊢
  obtain ⟨k0, k1, k2, k3, k4, k5, k6⟩ := HKC.out wa (Below.refl _ _)
  clear hba hwa hkc hsa hs hk hm
  go_enter Try.func54, Try.ntmps54
  go_wp2_with fail
  rw [HWA.out]
  clear HWA
  refine (HMAY.out _).mono ?_
  rintro e w1 ⟨rfl, hb1⟩
  have HB1 := Lib.hid hb1
  have hz1 := hb1.size
  clear k0 k1 k2 k3 k4 k5 k6 hb1 HMAY
  obtain ⟨k0, k1, k2, k3, k4, k5, k6⟩ := HKC.out w1 HB1.out
  have HN1 := Lib.hid (World.ownsRow_nil w1 wa.heap.size 5 1)
  have HP1 := Lib.hid (fun (n : Nat) (N : Int) (hN : N = (n : Nat)) (hn : n < 18446744073709551616) (many : Nat) (M : Int) (hM : M = (many : Nat)) (hmany : many ≤ 8) => ref_put wa.heap.size wa none 0 0 [] n N hN hn many M hM hmany w1 HB1.out hz1 HN1.out (by omega))
  go_wp2_with fail
  refine (HP1.out (12) _ (by simp) (by omega) 1 _ rfl (by decide)).mono ?_
  rintro e w2 ⟨A2, c2, rfl, ho2, hb2⟩
  clear k0 k1 k2 k3 k4 k5 k6 HP1
  obtain ⟨k0, k1, k2, k3, k4, k5, k6⟩ := HKC.out w2 hb2.out
  have hz2 := hb2.out.size
  have HP2 := Lib.hid (fun (n : Nat) (N : Int) (hN : N = (n : Nat)) (hn : n < 18446744073709551616) (many : Nat) (M : Int) (hM : M = (many : Nat)) (hmany : many ≤ 8) => ref_put wa.heap.size wa A2 (0 + 1) c2 ([] ++ beB 12 1) n N hN hn many M hM hmany w2 hb2.out hz2 ho2.out (by omega))
  go_wp2_with fail
  refine (HP2.out (t) _ (by first | rfl | simp | omega) (by omega) 3 _ rfl (by decide)).mono ?_
  rintro e w3 ⟨A3, c3, rfl, ho3, hb3⟩
  clear k0 k1 k2 k3 k4 k5 k6 HP2
  obtain ⟨k0, k1, k2, k3, k4, k5, k6⟩ := HKC.out w3 hb3.out
  have hz3 := hb3.out.size
  have HP3 := Lib.hid (fun (n : Nat) (N : Int) (hN : N = (n : Nat)) (hn : n < 18446744073709551616) (many : Nat) (M : Int) (hM : M = (many : Nat)) (hmany : many ≤ 8) => ref_put wa.heap.size wa A3 (0 + 1 + 3) c3 ([] ++ beB 12 1 ++ beB t 3) n N hN hn many M hM hmany w3 hb3.out hz3 ho3.out (by omega))
  go_wp2_with fail
  refine (HP3.out (b) _ (by first | rfl | simp | omega) (by omega) 4 _ rfl (by decide)).mono ?_
  rintro e w4 ⟨A4, c4, rfl, ho4, hb4⟩
  clear k0 k1 k2 k3 k4 k5 k6 HP3
  obtain ⟨k0, k1, k2, k3, k4, k5, k6⟩ := HKC.out w4 hb4.out
  have hz4 := hb4.out.size
  have HP4 := Lib.hid (fun (n : Nat) (N : Int) (hN : N = (n : Nat)) (hn : n < 18446744073709551616) (many : Nat) (M : Int) (hM : M = (many : Nat)) (hmany : many ≤ 8) => ref_put wa.heap.size wa A4 (0 + 1 + 3 + 4) c4 ([] ++ beB 12 1 ++ beB t 3 ++ beB b 4) n N hN hn many M hM hmany w4 hb4.out hz4 ho4.out (by omega))
  go_upto_region 12 with fail
  have HSB := Lib.hid (HS.out w4 (HBA.out.trans (hb4.out.mono HBA.out.size)))
  have HBD : Hid (0 + 1 + 3 + 4 + body.length ≤ maxLen ∧ (0 + 1 + 3 + 4 + body.length) * 1 ≤ 140737488355328 ∧ wa.heap.size ≤ w4.heap.size) := Lib.hid ⟨by unfold maxLen; omega, by omega, hz4⟩
  go_wp2_with (with_reducible refine wpList_pour (o := ⟨some 50, _, _, _, _, _⟩) rfl (.tmp 47) (.tmp 49) 27 rfl wa.heap.size 5 (.int .u8 0) 1 1 Try.underlying27 info_u8 ?hz (by decide) A4 (0 + 1 + 3 + 4) c4 (u8s ([] ++ beB 12 1 ++ beB t 3 ++ beB b 4)) ?hs ho4 A body.length c (u8s body) ?hx HSB HOB HBD ?next)
  all_goals try rfl
  case next =>
    intro A9 c9 w9 ho9 hg9
    have HB9 := Lib.hid (HBA.out.trans ((below_own hb4.out hz4 ho4.out (Nat.le_refl _) rfl hg9.out).mono HBA.out.size))
    have HO9 := Lib.hid (own_lower ho9.out HBA.out.size)
    clear k0 k1 k2 k3 k4 k5 k6 HP4 ho9 hg9
    go_wp2
    go_ret
    refine ⟨A9, c9, rfl, ?_, HB9⟩
    have h := HO9.out
    rw [← u8s_app] at h
    exact Lib.hid h
set_option maxRecDepth 100000 in
set_option maxHeartbeats 4000000 in
theorem text61 (t a b : Nat) (body : List Nat) (mac : Nat) (A : Option Addr) (c : Nat) (hk : (⟨6, 1, (t : Nat), a, b, body, mac⟩ : Pdu).ok) (hm : pdMay ⟨6, 1, (t : Nat), a, b, body, mac⟩) (w : World) (hs : Sl w 1 A body.length c (u8s body)) :
    Calls Try.prog 54 #[pdV ⟨6, 1, (t : Nat), a, b, body, mac⟩ A c] w fun e w' => ∃ A' c', e = .returned (.slice A' (0 + 1 + 3 + 4 + body.length) c') ∧ Hid (w'.ownsRow w.heap.size 5 1 (.slice A' (0 + 1 + 3 + 4 + body.length) c') (0 + 1 + 3 + 4 + body.length) (u8s ([] ++ beB 13 1 ++ beB t 3 ++ beB b 4 ++ body))) ∧ Hid (Below w.heap.size w w') := by
  have ht : t ≤ 16777215 := by have h : ((t : Nat) : Int) ≤ 16777215 := hm.2.1; omega
  have ha : a < 4294967296 := hk.1
  have hb : b < 4294967296 := hk.2.1
  have hbl : body.length ≤ 1023 := by have := hm.2.2; unfold pdForm at this; simp only at this; omega
  have HMAY := Lib.hid (fun W => ref_may ⟨6, 1, (t : Nat), a, b, body, mac⟩ A c hk (by simp only; omega) W)
  rw [decide_eq_true hm] at HMAY
  obtain ⟨wa, hwa, hba, hsa, hkc⟩ := pd_box ⟨6, 1, (t : Nat), a, b, body, mac⟩ A c w
  have HBA := Lib.hid hba; have HWA := Lib.hid hwa; have HKC := Lib.hid hkc; have HSA := Lib.hid hsa
  have HS := Lib.hid (fun W (hW : Below w.heap.size w W) => Sl.under hs hW)
  have HOB := Lib.hid (u8s_one body)
  unfold pdV pdA at *
  simp only at HMAY HWA HKC ⊢
  obtain ⟨k0, k1, k2, k3, k4, k5, k6⟩ := HKC.out wa (Below.refl _ _)
  clear hba hwa hkc hsa hs hk hm
  go_enter Try.func54, Try.ntmps54
  go_wp2_with fail
  rw [HWA.out]
  clear HWA
  refine (HMAY.out _).mono ?_
  rintro e w1 ⟨rfl, hb1⟩
  have HB1 := Lib.hid hb1
  have hz1 := hb1.size
  clear k0 k1 k2 k3 k4 k5 k6 hb1 HMAY
  obtain ⟨k0, k1, k2, k3, k4, k5, k6⟩ := HKC.out w1 HB1.out
  have HN1 := Lib.hid (World.ownsRow_nil w1 wa.heap.size 5 1)
  have HP1 := Lib.hid (fun (n : Nat) (N : Int) (hN : N = (n : Nat)) (hn : n < 18446744073709551616) (many : Nat) (M : Int) (hM : M = (many : Nat)) (hmany : many ≤ 8) => ref_put wa.heap.size wa none 0 0 [] n N hN hn many M hM hmany w1 HB1.out hz1 HN1.out (by omega))
  go_wp2_with fail
  refine (HP1.out (13) _ (by simp) (by omega) 1 _ rfl (by decide)).mono ?_
  rintro e w2 ⟨A2, c2, rfl, ho2, hb2⟩
  clear k0 k1 k2 k3 k4 k5 k6 HP1
  obtain ⟨k0, k1, k2, k3, k4, k5, k6⟩ := HKC.out w2 hb2.out
  have hz2 := hb2.out.size
  have HP2 := Lib.hid (fun (n : Nat) (N : Int) (hN : N = (n : Nat)) (hn : n < 18446744073709551616) (many : Nat) (M : Int) (hM : M = (many : Nat)) (hmany : many ≤ 8) => ref_put wa.heap.size wa A2 (0 + 1) c2 ([] ++ beB 13 1) n N hN hn many M hM hmany w2 hb2.out hz2 ho2.out (by omega))
  go_wp2_with fail
  refine (HP2.out (t) _ (by first | rfl | simp | omega) (by omega) 3 _ rfl (by decide)).mono ?_
  rintro e w3 ⟨A3, c3, rfl, ho3, hb3⟩
  clear k0 k1 k2 k3 k4 k5 k6 HP2
  obtain ⟨k0, k1, k2, k3, k4, k5, k6⟩ := HKC.out w3 hb3.out
  have hz3 := hb3.out.size
  have HP3 := Lib.hid (fun (n : Nat) (N : Int) (hN : N = (n : Nat)) (hn : n < 18446744073709551616) (many : Nat) (M : Int) (hM : M = (many : Nat)) (hmany : many ≤ 8) => ref_put wa.heap.size wa A3 (0 + 1 + 3) c3 ([] ++ beB 13 1 ++ beB t 3) n N hN hn many M hM hmany w3 hb3.out hz3 ho3.out (by omega))
  go_wp2_with fail
  refine (HP3.out (b) _ (by first | rfl | simp | omega) (by omega) 4 _ rfl (by decide)).mono ?_
  rintro e w4 ⟨A4, c4, rfl, ho4, hb4⟩
  clear k0 k1 k2 k3 k4 k5 k6 HP3
  obtain ⟨k0, k1, k2, k3, k4, k5, k6⟩ := HKC.out w4 hb4.out
  have hz4 := hb4.out.size
  have HP4 := Lib.hid (fun (n : Nat) (N : Int) (hN : N = (n : Nat)) (hn : n < 18446744073709551616) (many : Nat) (M : Int) (hM : M = (many : Nat)) (hmany : many ≤ 8) => ref_put wa.heap.size wa A4 (0 + 1 + 3 + 4) c4 ([] ++ beB 13 1 ++ beB t 3 ++ beB b 4) n N hN hn many M hM hmany w4 hb4.out hz4 ho4.out (by omega))
  go_upto_region 12 with fail
  have HSB := Lib.hid (HS.out w4 (HBA.out.trans (hb4.out.mono HBA.out.size)))
  have HBD : Hid (0 + 1 + 3 + 4 + body.length ≤ maxLen ∧ (0 + 1 + 3 + 4 + body.length) * 1 ≤ 140737488355328 ∧ wa.heap.size ≤ w4.heap.size) := Lib.hid ⟨by unfold maxLen; omega, by omega, hz4⟩
  go_wp2_with (with_reducible refine wpList_pour (o := ⟨some 50, _, _, _, _, _⟩) rfl (.tmp 47) (.tmp 49) 27 rfl wa.heap.size 5 (.int .u8 0) 1 1 Try.underlying27 info_u8 ?hz (by decide) A4 (0 + 1 + 3 + 4) c4 (u8s ([] ++ beB 13 1 ++ beB t 3 ++ beB b 4)) ?hs ho4 A body.length c (u8s body) ?hx HSB HOB HBD ?next)
  all_goals try rfl
  case next =>
    intro A9 c9 w9 ho9 hg9
    have HB9 := Lib.hid (HBA.out.trans ((below_own hb4.out hz4 ho4.out (Nat.le_refl _) rfl hg9.out).mono HBA.out.size))
    have HO9 := Lib.hid (own_lower ho9.out HBA.out.size)
    clear k0 k1 k2 k3 k4 k5 k6 HP4 ho9 hg9
    go_wp2
    go_ret
    refine ⟨A9, c9, rfl, ?_, HB9⟩
    have h := HO9.out
    rw [← u8s_app] at h
    exact Lib.hid h
end Go.Proofs.Ytekcnmimfhiblaa

/-
  linesideref09: Text of any PDU, Encode, by contract.
-/
namespace Go.Proofs.Ytekcnmimfhiblaa

open Go.RowKit

theorem text_any {p : Pdu} {A : Option Addr} {c : Nat} {w : World} {n : Nat} {xs : List Nat} (h : Calls Try.prog 54 #[pdV p A c] w fun e w' => ∃ A' c', e = .returned (.slice A' n c') ∧ Hid (w'.ownsRow w.heap.size 5 1 (.slice A' n c') n (u8s xs)) ∧ Hid (Below w.heap.size w w'))
    (hx : xs = pdText p) (hn : n = xs.length) : Calls Try.prog 54 #[pdV p A c] w fun e w' => ∃ A' c', e = .returned (.slice A' (pdText p).length c') ∧ Hid (w'.ownsRow w.heap.size 5 1 (.slice A' (pdText p).length c') (pdText p).length (u8s (pdText p))) ∧ Hid (Below w.heap.size w w') := by
  subst hn; subst hx
  exact h
set_option maxRecDepth 100000 in
set_option maxHeartbeats 2000000 in
theorem ref_text (p : Pdu) (A : Option Addr) (c : Nat) (hk : p.ok) (hn : p.body.length ≤ 2000) (w : World) (hs : Sl w 1 A p.body.length c (u8s p.body)) :
    Calls Try.prog 54 #[pdV p A c] w fun e w' => ∃ A' c', e = .returned (.slice A' (pdText p).length c') ∧ Hid (w'.ownsRow w.heap.size 5 1 (.slice A' (pdText p).length c') (pdText p).length (u8s (pdText p))) ∧ Hid (Below w.heap.size w w') := by
  by_cases hm : pdMay p
  · have hp : pdText p = pdTextV p := by unfold pdText; rw [if_pos hm]
    obtain ⟨kind, dir, train, a, b, body, mac⟩ := p
    obtain ⟨t, rfl⟩ : ∃ t : Nat, train = t := ⟨train.toNat, by have : 0 ≤ train := hm.1; omega⟩
    have hf := hm.2.2
    unfold pdForm at hf
    simp only at hf
    rcases hf with ⟨rfl, rfl, _, _, hl⟩ | ⟨rfl, rfl, hl⟩ | ⟨rfl, rfl, hl⟩ | ⟨rfl, rfl | rfl, _, hl1, hl2⟩ | ⟨rfl, rfl | rfl, _, hl⟩
    · exact text_any (text1 t a b body mac A c hk hm w hs) (by rw [hp]; simp [pdTextV]) (by simp [be_len]; omega)
    · exact text_any (text2 t a b body mac A c hk hm w hs) (by rw [hp]; simp [pdTextV]) (by simp [be_len]; omega)
    · exact text_any (text3 t a b body mac A c hk hm w hs) (by rw [hp]; simp [pdTextV]) (by simp [be_len]; omega)
    · exact text_any (text50 t a b body mac A c hk hm w hs) (by rw [hp]; simp [pdTextV]) (by simp [be_len]; omega)
    · exact text_any (text51 t a b body mac A c hk hm w hs) (by rw [hp]; simp [pdTextV]) (by simp [be_len]; omega)
    · exact text_any (text60 t a b body mac A c hk hm w hs) (by rw [hp]; simp [pdTextV]) (by simp [be_len]; omega)
    · exact text_any (text61 t a b body mac A c hk hm w hs) (by rw [hp]; simp [pdTextV]) (by simp [be_len]; omega)
  · have hp : pdText p = [] := by unfold pdText; rw [if_neg hm]
    rw [hp]
    have HMAY := Lib.hid (fun W => ref_may p A c hk (by omega) W)
    rw [decide_eq_false hm] at HMAY
    obtain ⟨wa, hwa, hba, hsa, hkc⟩ := pd_box p A c w
    have HBA := Lib.hid hba; have HWA := Lib.hid hwa
    obtain ⟨k0, k1, k2, k3, k4, k5, k6⟩ := hkc wa (Below.refl _ _)
    unfold pdV pdA at *
    clear hba hwa hkc hsa hs hk hm hp
    go_enter Try.func54, Try.ntmps54
    go_wp2_with fail
    rw [HWA.out]
    clear HWA
    refine (HMAY.out _).mono ?_
    rintro e w1 ⟨rfl, hb1⟩
    have HB1 := Lib.hid (HBA.out.trans (hb1.mono HBA.out.size))
    clear hb1 k0 k1 k2 k3 k4 k5 k6 HMAY
    go_wp2
    go_ret
    exact ⟨none, 0, rfl, Lib.hid (World.ownsRow_nil _ _ _ _), HB1⟩

end Go.Proofs.Ytekcnmimfhiblaa

/-
  linesideref09.get, by contract.
-/
namespace Go.Proofs.Ytekcnmimfhiblaa

open Go.RowKit
end Go.Proofs.Ytekcnmimfhiblaa

/-
  linesideref09.Decode, by contract.
-/
namespace Go.Proofs.Ytekcnmimfhiblaa

open Go.RowKit

open Go.Great

theorem parse_1 {xs : List Nat} {x : Nat} (hx : xs.getD 0 0 = x) (h : x / 2 = 1) : pdParse xs = ⟨(1 : Nat), (x % 2 : Nat), (pdGet xs 1 3 : Nat), pdGet xs 4 4, 0, [], 0⟩ := by
  simp only [pdParse, hx, h]
  simp
theorem parse_23 {xs : List Nat} {x k : Nat} (hx : xs.getD 0 0 = x) (h : x / 2 = k) (hk : k = 2 ∨ k = 3) : pdParse xs = ⟨(k : Nat), (x % 2 : Nat), (pdGet xs 1 3 : Nat), pdGet xs 4 4, pdGet xs 8 4, [], pdGet xs (xs.length - 8) 8⟩ := by
  rcases hk with rfl | rfl <;> (simp only [pdParse, hx, h]; simp)
theorem parse_5 {xs : List Nat} {x : Nat} (hx : xs.getD 0 0 = x) (h : x / 2 = 5) : pdParse xs = ⟨(5 : Nat), (x % 2 : Nat), (pdGet xs 1 3 : Nat), 0, pdGet xs 4 4, (xs.take (xs.length - 8)).drop 10, pdGet xs (xs.length - 8) 8⟩ := by
  simp only [pdParse, hx, h]
  simp
theorem parse_6 {xs : List Nat} {x : Nat} (hx : xs.getD 0 0 = x) (h : x / 2 = 6) : pdParse xs = ⟨(6 : Nat), (x % 2 : Nat), (pdGet xs 1 3 : Nat), 0, pdGet xs 4 4, (xs.take (xs.length - 8)).drop 8, pdGet xs (xs.length - 8) 8⟩ := by
  simp only [pdParse, hx, h]
  simp
theorem parse_no {xs : List Nat} {x k : Nat} (hx : xs.getD 0 0 = x) (h : x / 2 = k) (h1 : k ≠ 1) (h2 : k ≠ 2) (h3 : k ≠ 3) (h5 : k ≠ 5) (h6 : k ≠ 6) : pdParse xs = ⟨(k : Nat), (x % 2 : Nat), (pdGet xs 1 3 : Nat), 0, 0, [], 0⟩ := by
  simp only [pdParse, hx, h, h1, h2, h3, h5, h6]
  simp
theorem parse_body_len (xs : List Nat) : (pdParse xs).body.length ≤ xs.length := by
  show (if _ then _ else if _ then _ else _ : List Nat).length ≤ _
  have h1 : ∀ n m, ((xs.take n).drop m).length ≤ xs.length := fun n m => by rw [List.length_drop, List.length_take]; omega
  split
  · exact h1 _ _
  · split
    · exact h1 _ _
    · simp
theorem enc_8 {p : Pdu} (hk : p.ok) : bytes8 (pdEnc p) := by
  by_cases hm : pdMay p
  · have h := text_8 (p := p) hk.2.2.1
    unfold pdText at h
    rw [if_pos hm] at h
    unfold pdEnc pdEncV
    rw [if_pos hm]
    intro x hx
    rcases List.mem_append.1 hx with h1 | h1
    · exact h x h1
    · split at h1
      · exact be_8 _ _ x h1
      · cases h1
  · unfold pdEnc; rw [if_neg hm]; intro x hx; cases hx
theorem has_seven {w : World} {g : Nat} {t : TypeId} {a b c d e f i : Value} (h : Has w g t #[a, b, c, d, e, f, i]) : w.cell? ⟨g, 0, none⟩ = some a ∧ w.cell? ⟨g, 1, none⟩ = some b ∧ w.cell? ⟨g, 2, none⟩ = some c ∧ w.cell? ⟨g, 3, none⟩ = some d ∧ w.cell? ⟨g, 4, none⟩ = some e ∧ w.cell? ⟨g, 5, none⟩ = some f ∧ w.cell? ⟨g, 6, none⟩ = some i :=
  ⟨h.cell 0, h.cell 1, h.cell 2, h.cell 3, h.cell 4, h.cell 5, h.cell 6⟩
theorem thaw_seven {w : World} {g : Nat} {t : TypeId} {cs : Array Value} (h : Has w g t cs) : w.frozen? ⟨g, 0, none⟩ = false ∧ w.frozen? ⟨g, 1, none⟩ = false ∧ w.frozen? ⟨g, 2, none⟩ = false ∧ w.frozen? ⟨g, 3, none⟩ = false ∧ w.frozen? ⟨g, 4, none⟩ = false ∧ w.frozen? ⟨g, 5, none⟩ = false ∧ w.frozen? ⟨g, 6, none⟩ = false :=
  ⟨h.thaw 0, h.thaw 1, h.thaw 2, h.thaw 3, h.thaw 4, h.thaw 5, h.thaw 6⟩
/-- What a decoder answers of the bytes xs. -/
def DecAns (xs : List Nat) (p : Pdu) (err : Int) : Prop := (pdDec xs = some p ∧ err = 0) ∨ (pdDec xs = none ∧ p = pdZero ∧ err = 8)

end Go.Proofs.Ytekcnmimfhiblaa
