/-
  PdOwnM, PdOwnT, PdOwnE: merged.
-/
import Derived.Test.YtekcnmimfhiblaaPdLeaf
import Derived.Deep.RegionHeld3

/-
  package pdu as landed: May.
-/
namespace Go.Proofs.Ytekcnmimfhiblaa
open Go.RowKit
open Go.Great

set_option maxRecDepth 100000 in
set_option maxHeartbeats 4000000 in
theorem opd_may (p : Pdu) (A : Option Addr) (c : Nat) (hk : p.ok) (hn : p.body.length ≤ 2000) (w : World) :
    Calls Try.prog 29 #[pdV p A c] w fun e w' => e = .returned (.bool (decide (pdMay p))) ∧ Below w.heap.size w w' := by
  obtain ⟨kind, dir, train, a, b, body, mac⟩ := p
  obtain ⟨ha, hb, _, hmac⟩ := hk
  unfold pdV pdA
  simp only at ha hb hmac hn ⊢
  go_enter Try.func29, Try.ntmps29
  go_wp2
  all_goals go_ret
  all_goals refine ⟨congrArg (fun b => Ending.returned (Value.bool b)) (bool_dec ?_), (Below.refl _ _).alloc (Nat.le_refl _) _⟩
  all_goals simp only [beq_iff_eq, beq_eq_false_iff_ne, ne_eq, decide_eq_true_eq, Bool.false_eq_true, false_iff, pdMay, pdForm] at *
  all_goals (try simp only [true_and, true_or, or_true])
  all_goals omega
theorem wrapU9 {n : Nat} (h : n < 18446744073709551616) : IntKind.u64.wrap (n : Int) = (n : Int) := by
  rw [IntKind.wrap_u64]; omega
/-- bytesOf, in a world that grew from an elder one. -/
theorem opd_bytesU (W0 : World) (n m : Nat) (N M : Int) (hN : N = (n : Nat)) (hM : M = (m : Nat)) (hn : n < 18446744073709551616) (hm : m ≤ 8) (W : World) (hW : Below W0.heap.size W0 W) :
    Calls Try.prog 60 #[.int .u64 N, .int .i64 M] W fun e w' => ∃ A' c', e = .returned (.slice A' m c') ∧ Hid (w'.ownsRow W.heap.size 5 1 (.slice A' m c') m (u8s (beB n m))) ∧ Hid (Below W.heap.size W w') ∧ Below W0.heap.size W0 w' :=
  (opd_bytes n m N M hN hM hn hm W).mono fun _ _ ⟨A', c', h1, h2, h3⟩ => ⟨A', c', h1, h2, h3, hW.trans (h3.out.mono hW.size)⟩
/-- join of parts just gathered, in a world that grew from elder ones. -/
theorem opd_joinU (ps : List Part9) (n : Nat) (hn : ps.length = n) (h5 : n ≤ 5) (w wa W : World) (hwa : Below w.heap.size w wa) (hW : Below wa.heap.size wa W) (hp : PartsOk W ps) (cs : Array Value) (hcs : cs = (ps.map Part9.v).toArray) :
    Calls Try.prog 59 #[.slice (some ⟨W.heap.size, 0, none⟩) n n] (W.alloc (.cells cs 27)) fun e w' => ∃ A' c', e = .returned (.slice A' (cat9 ps).length c') ∧ Hid (w'.ownsRow w.heap.size 5 1 (.slice A' (cat9 ps).length c') (cat9 ps).length (u8s (cat9 ps))) ∧ Hid (Below w.heap.size w w') ∧ Below wa.heap.size wa w' := by
  subst hcs
  refine (opd_join ps W.heap.size _ (Has.made _ _ _) (hp.beside _) n hn h5).mono ?_
  rintro e w' ⟨A', c', h1, h2, h3⟩
  have h4 := hW.trans (((Below.refl _ _).alloc (Nat.le_refl _) _ : Below W.heap.size W (W.alloc (.cells (ps.map Part9.v).toArray 27))).mono hW.size)
  have h5 := h4.trans (h3.out.mono h4.size)
  refine ⟨A', c', h1, Lib.hid (own_lower h2.out (Nat.le_trans hwa.size h4.size)), Lib.hid (hwa.trans (h5.mono hwa.size)), h5⟩
end Go.Proofs.Ytekcnmimfhiblaa

/-
  package pdu as landed: Text.
-/
namespace Go.Proofs.Ytekcnmimfhiblaa
open Go.RowKit
open Go.Great

set_option maxRecDepth 100000 in
set_option maxHeartbeats 4000000 in
theorem opd_text (p : Pdu) (A : Option Addr) (c : Nat) (hk : p.ok) (hn : p.body.length ≤ 2000) (w : World) (hs : Sl w 1 A p.body.length c (u8s p.body)) :
    Calls Try.prog 58 #[pdV p A c] w (TextPost (pdText p) w) := by
  have HMAY := Lib.hid (fun W => opd_may p A c hk hn W)
  obtain ⟨wa, hwa, hba, hsa, hkc⟩ := pd_box p A c w
  have HBA := Lib.hid hba; have HWA := Lib.hid hwa; have HKC := Lib.hid hkc
  have HSL := Lib.hid (fun W (hW : Below wa.heap.size wa W) => Sl.under hs (hba.trans (hW.mono hba.size)))
  unfold TextPost
  by_cases hm : pdMay p
  · have hp : pdText p = pdTextV p := by unfold pdText; rw [if_pos hm]
    rw [hp]
    rw [decide_eq_true hm] at HMAY
    have hform := hm.2.2
    unfold pdForm at hform
    obtain ⟨f1, f2, f3, f4⟩ : 1 ≤ p.kind ∧ p.kind ≤ 6 ∧ 0 ≤ p.dir ∧ p.dir ≤ 1 := by omega
    obtain ⟨f5, f6⟩ : 0 ≤ p.train ∧ p.train ≤ 16777215 := ⟨hm.1, hm.2.1⟩
    have f7 := hk.1; have f8 := hk.2.1
    have HX1 := Lib.hid (fun W => opd_bytes (2 * p.kind + p.dir).toNat 1 (2 * p.kind + p.dir) 1 (by omega) rfl (by omega) (by decide) W)
    have HX3 := Lib.hid (fun W => opd_bytes p.train.toNat 3 p.train 3 (by omega) rfl (by omega) (by decide) W)
    have HXA := Lib.hid (fun W (hW : Below wa.heap.size wa W) => opd_bytesU wa p.a 4 (IntKind.u64.wrap (p.a : Nat)) 4 (wrapU9 (by omega)) rfl (by omega) (by decide) W hW)
    have HXB := Lib.hid (fun W (hW : Below wa.heap.size wa W) => opd_bytesU wa p.b 4 (IntKind.u64.wrap (p.b : Nat)) 4 (wrapU9 (by omega)) rfl (by omega) (by decide) W hW)
    have HXL := Lib.hid (fun W (hW : Below wa.heap.size wa W) => opd_bytesU wa p.body.length 2 (IntKind.u64.wrap (p.body.length : Nat)) 2 (wrapU9 (by omega)) rfl (by omega) (by decide) W hW)
    have HF := Lib.hid hform
    obtain ⟨k0, k1, k2, k3, k4, k5, k6⟩ := HKC.out wa (Below.refl _ _)
    unfold pdV pdA at *
    clear hba hwa hkc hsa hs hk hm hp hform
    go_enter Try.func58, Try.ntmps58
    go_wp2_with fail
    rw [HWA.out]
    clear HWA
    refine (HMAY.out _).mono ?_
    rintro e w1 ⟨rfl, hb1⟩
    have HB1 := Lib.hid hb1
    clear hb1 k0 k1 k2 k3 k4 k5 k6 HMAY
    obtain ⟨k0, k1, k2, k3, k4, k5, k6⟩ := HKC.out w1 HB1.out
    go_wp2_with fail
    refine (HX1.out _).mono ?_
    rintro e w2 ⟨A2, c2, rfl, ho2, hb2⟩
    have HB2 := Lib.hid (HB1.out.trans (hb2.out.mono HB1.out.size))
    have HO2 := Lib.hid (own_lower ho2.out HB1.out.size)
    clear ho2 hb2 HX1 HB1 k0 k1 k2 k3 k4 k5 k6
    obtain ⟨k0, k1, k2, k3, k4, k5, k6⟩ := HKC.out w2 HB2.out
    go_wp2_with fail
    refine (HX3.out _).mono ?_
    rintro e w3 ⟨A3, c3, rfl, ho3, hb3⟩
    have HB3 := Lib.hid (HB2.out.trans (hb3.out.mono HB2.out.size))
    have HP3 : Hid (PartsOk w3 [⟨A2, 1, c2, beB (2 * p.kind + p.dir).toNat 1⟩, ⟨A3, 3, c3, beB p.train.toNat 3⟩]) := Lib.hid ⟨PartsOk.own (own_under HO2.out hb3.out (Nat.le_refl _)) (Nat.le_of_ble_eq_true rfl), PartsOk.own ho3.out (Nat.le_of_ble_eq_true rfl), trivial⟩
    clear ho3 hb3 HX3 HO2 HB2 k0 k1 k2 k3 k4 k5 k6
    obtain ⟨k0, k1, k2, k3, k4, k5, k6⟩ := HKC.out w3 HB3.out
    go_upto_region 5 with fail
    have hbd := HB3.out
    have hbd2 := below_dr HB3.out
    go_cut [5, 6] (fun s5 s6 wx => ∃ A5 c5 A6 c6, s5 = .slice A5 4 c5 ∧ s6 = .slice A6 4 c6 ∧ PartsOk wx [⟨A2, 1, c2, beB (2 * p.kind + p.dir).toNat 1⟩, ⟨A3, 3, c3, beB p.train.toNat 3⟩, ⟨A5, 4, c5, beB p.a 4⟩, ⟨A6, 4, c6, beB p.b 4⟩] ∧ Below wa.heap.size wa wx)
    case first =>
      go_region_held3 (fun W => W.cell? ⟨w.heap.size, 0, none⟩ = some (.int .i64 p.kind) ∧ W.cell? ⟨w.heap.size, 1, none⟩ = some (.int .i64 p.dir) ∧ W.cell? ⟨w.heap.size, 2, none⟩ = some (.int .i64 p.train) ∧ W.cell? ⟨w.heap.size, 3, none⟩ = some (.int .u32 (p.a : Nat)) ∧ W.cell? ⟨w.heap.size, 4, none⟩ = some (.int .u32 (p.b : Nat)) ∧ W.cell? ⟨w.heap.size, 5, none⟩ = some (.slice A p.body.length c) ∧ W.cell? ⟨w.heap.size, 6, none⟩ = some (.int .u64 (p.mac : Nat)))
        (first | exact HKC.out _ (by assumption) | go_keep) (first
        | (go_at_call 60; (with_reducible refine (HXA.out _ (by assumption)).mono ?_); rintro e wA ⟨A5, c5, rfl, hoA, hbA, hcA⟩)
        | (go_at_call 60; (with_reducible refine (HXB.out _ (by assumption)).mono ?_); rintro e wB ⟨A6, c6, rfl, hoB, hbB, hcB⟩))
      all_goals
        go_wp2_with fail
        go_meet
        first
        | exact ⟨A5, c5, A6, c6, rfl, rfl, ⟨(HP3.out.under (((below_dr (Below.refl _ _)).trans hbA.out).trans (hbB.out.mono hbA.out.size))).1, (HP3.out.under (((below_dr (Below.refl _ _)).trans hbA.out).trans (hbB.out.mono hbA.out.size))).2.1, PartsOk.own (own_under hoA.out hbB.out (Nat.le_refl _)) (Nat.le_of_ble_eq_true rfl), PartsOk.own hoB.out (Nat.le_of_ble_eq_true rfl), trivial⟩, hcB⟩
        | exact ⟨A5, c5, A6, c6, rfl, rfl, ⟨(HP3.out.under (((below_dr (Below.refl _ _)).trans hbB.out).trans (hbA.out.mono hbB.out.size))).1, (HP3.out.under (((below_dr (Below.refl _ _)).trans hbB.out).trans (hbA.out.mono hbB.out.size))).2.1, PartsOk.own hoA.out (Nat.le_of_ble_eq_true rfl), PartsOk.own (own_under hoB.out hbA.out (Nat.le_refl _)) (Nat.le_of_ble_eq_true rfl), trivial⟩, hcA⟩
    case rest =>
      obtain ⟨A5, c5, A6, c6, rfl, rfl, ⟨hp1, hp2, hp3, hp4, _⟩, hbc⟩ := hcut
      have HS := Lib.hid (HSL.out wc hbc)
      have HP1 := Lib.hid hp1; have HP2 := Lib.hid hp2; have HP3' := Lib.hid hp3; have HP4 := Lib.hid hp4; have HBC := Lib.hid hbc
      clear k0 k1 k2 k3 k4 k5 k6 hp1 hp2 hp3 hp4 hbd hbd2 HP3 HB3 HXA HXB
      obtain ⟨k0, k1, k2, k3, k4, k5, k6⟩ := HKC.out wc hbc
      clear hbc
      have hf : (p.kind = 1 ∧ p.body.length = 0) ∨ (2 ≤ p.kind ∧ p.kind ≤ 3 ∧ p.body.length = 0) ∨ p.kind = 5 ∨ p.kind = 6 := by have := HF.out; omega
      clear HF
      rcases hf with ⟨h1, h5⟩ | ⟨h1, h3, h5⟩ | h1 | h1
      · have hbd : p.body = [] := List.eq_nil_of_length_eq_zero h5
        have HT : Hid (pdTextV p = cat9 [⟨A2, 1, c2, beB (2 * p.kind + p.dir).toNat 1⟩, ⟨A3, 3, c3, beB p.train.toNat 3⟩, ⟨A5, 4, c5, beB p.a 4⟩]) := Lib.hid (by unfold pdTextV; simp [cat9, h1, hbd])
        have x1 : (p.kind == 1) = true := by simp [h1]
        clear h1 h5 hbd
        go_wp2_with fail
        refine (opd_joinU [⟨A2, 1, c2, beB (2 * p.kind + p.dir).toNat 1⟩, ⟨A3, 3, c3, beB p.train.toNat 3⟩, ⟨A5, 4, c5, beB p.a 4⟩] 3 rfl (by decide) w wa wc HBA.out HBC.out ⟨HP1.out, HP2.out, HP3'.out, trivial⟩ _ rfl).mono ?_
        rintro e w9 ⟨A9, c9, rfl, ho9, hb9, _⟩
        go_wp2
        go_ret
        rw [HT.out]
        exact ⟨A9, c9, rfl, ho9, hb9⟩
      · have hbd : p.body = [] := List.eq_nil_of_length_eq_zero h5
        have HT : Hid (pdTextV p = cat9 [⟨A2, 1, c2, beB (2 * p.kind + p.dir).toNat 1⟩, ⟨A3, 3, c3, beB p.train.toNat 3⟩, ⟨A5, 4, c5, beB p.a 4⟩, ⟨A6, 4, c6, beB p.b 4⟩]) := Lib.hid (by unfold pdTextV; rw [if_pos h3, if_pos h1, if_neg (by omega)]; simp [cat9, hbd])
        have x1 : (p.kind == 1) = false := by rw [beq_eq_false_iff_ne]; omega
        have x2 : (p.kind == 5) = false := by rw [beq_eq_false_iff_ne]; omega
        have x3 : (p.kind == 6) = false := by rw [beq_eq_false_iff_ne]; omega
        clear h1 h3 h5 hbd
        go_wp2_with fail
        refine (opd_joinU [⟨A2, 1, c2, beB (2 * p.kind + p.dir).toNat 1⟩, ⟨A3, 3, c3, beB p.train.toNat 3⟩, ⟨A5, 4, c5, beB p.a 4⟩, ⟨A6, 4, c6, beB p.b 4⟩] 4 rfl (by decide) w wa wc HBA.out HBC.out ⟨HP1.out, HP2.out, HP3'.out, HP4.out, trivial⟩ _ rfl).mono ?_
        rintro e w9 ⟨A9, c9, rfl, ho9, hb9, _⟩
        go_wp2
        go_ret
        rw [HT.out]
        exact ⟨A9, c9, rfl, ho9, hb9⟩
      · have HT : Hid (pdTextV p = cat9 [⟨A2, 1, c2, beB (2 * p.kind + p.dir).toNat 1⟩, ⟨A3, 3, c3, beB p.train.toNat 3⟩, ⟨A6, 4, c6, beB p.b 4⟩, ⟨none, 2, 0, beB p.body.length 2⟩, ⟨A, p.body.length, c, p.body⟩]) := Lib.hid (by unfold pdTextV; simp [cat9, h1])
        have x1 : (p.kind == 1) = false := by simp [h1]
        have x2 : (p.kind == 5) = true := by simp [h1]
        have HJ := Lib.hid (fun (A7 : Option Addr) (c7 : Nat) (wA : World) (hoA : Hid (wA.ownsRow wc.drew.heap.size 5 1 (.slice A7 2 c7) 2 (u8s (beB p.body.length 2)))) (hbA : Hid (Below wc.drew.heap.size wc.drew wA)) (hcA : Below wa.heap.size wa wA) => opd_joinU [⟨A2, 1, c2, beB (2 * p.kind + p.dir).toNat 1⟩, ⟨A3, 3, c3, beB p.train.toNat 3⟩, ⟨A6, 4, c6, beB p.b 4⟩, ⟨A7, 2, c7, beB p.body.length 2⟩, ⟨A, p.body.length, c, p.body⟩] 5 rfl (by decide) w wa wA HBA.out hcA
          (have hup := (below_dr (Below.refl _ _)).trans hbA.out
           have hq := PartsOk.under (ps := [⟨A2, 1, c2, beB (2 * p.kind + p.dir).toNat 1⟩, ⟨A3, 3, c3, beB p.train.toNat 3⟩, ⟨A6, 4, c6, beB p.b 4⟩, ⟨A, p.body.length, c, p.body⟩]) ⟨HP1.out, HP2.out, HP4.out, ⟨HS.out, rfl, hn⟩, trivial⟩ hup
           ⟨hq.1, hq.2.1, hq.2.2.1, PartsOk.own hoA.out (Nat.le_of_ble_eq_true rfl), hq.2.2.2⟩) _ rfl)
        clear h1
        have hbd := HBC.out
        have hbd2 := below_dr HBC.out
        go_upto_region 10 with fail
        go_region_held3 (fun W => W.cell? ⟨w.heap.size, 0, none⟩ = some (.int .i64 p.kind) ∧ W.cell? ⟨w.heap.size, 1, none⟩ = some (.int .i64 p.dir) ∧ W.cell? ⟨w.heap.size, 2, none⟩ = some (.int .i64 p.train) ∧ W.cell? ⟨w.heap.size, 3, none⟩ = some (.int .u32 (p.a : Nat)) ∧ W.cell? ⟨w.heap.size, 4, none⟩ = some (.int .u32 (p.b : Nat)) ∧ W.cell? ⟨w.heap.size, 5, none⟩ = some (.slice A p.body.length c) ∧ W.cell? ⟨w.heap.size, 6, none⟩ = some (.int .u64 (p.mac : Nat)))
          (first | exact HKC.out _ (by assumption) | go_keep) (first
          | (go_at_call 60; (with_reducible refine (HXL.out _ (by assumption)).mono ?_); rintro e wA ⟨A7, c7, rfl, hoA, hbA, hcA⟩)
          | (go_at_call 59; refine (HJ.out _ _ _ hoA hbA hcA).mono ?_; rintro e w9 ⟨A9, c9, rfl, ho9, hb9, hc9⟩))
        all_goals
          go_wp2
          go_ret
          rw [HT.out]
          exact ⟨A9, c9, rfl, ho9, hb9⟩
      · have HT : Hid (pdTextV p = cat9 [⟨A2, 1, c2, beB (2 * p.kind + p.dir).toNat 1⟩, ⟨A3, 3, c3, beB p.train.toNat 3⟩, ⟨A6, 4, c6, beB p.b 4⟩, ⟨A, p.body.length, c, p.body⟩]) := Lib.hid (by unfold pdTextV; simp [cat9, h1])
        have x1 : (p.kind == 1) = false := by simp [h1]
        have x2 : (p.kind == 5) = false := by simp [h1]
        have x3 : (p.kind == 6) = true := by simp [h1]
        clear h1
        go_wp2_with fail
        refine (opd_joinU [⟨A2, 1, c2, beB (2 * p.kind + p.dir).toNat 1⟩, ⟨A3, 3, c3, beB p.train.toNat 3⟩, ⟨A6, 4, c6, beB p.b 4⟩, ⟨A, p.body.length, c, p.body⟩] 4 rfl (by decide) w wa wc HBA.out HBC.out ⟨HP1.out, HP2.out, HP4.out, ⟨HS.out, rfl, hn⟩, trivial⟩ _ rfl).mono ?_
        rintro e w9 ⟨A9, c9, rfl, ho9, hb9, _⟩
        go_wp2
        go_ret
        rw [HT.out]
        exact ⟨A9, c9, rfl, ho9, hb9⟩
  · have hp : pdText p = [] := by unfold pdText; rw [if_neg hm]
    rw [hp]
    rw [decide_eq_false hm] at HMAY
    obtain ⟨k0, k1, k2, k3, k4, k5, k6⟩ := hkc wa (Below.refl _ _)
    unfold pdV pdA at *
    clear hba hwa hkc hsa hs hk hm hp
    go_enter Try.func58, Try.ntmps58
    go_wp2_with fail
    rw [HWA.out]
    clear HWA
    refine (HMAY.out _).mono ?_
    rintro e w1 ⟨rfl, hb1⟩
    have HB1 := Lib.hid (HBA.out.trans (hb1.mono HBA.out.size))
    clear hb1 k0 k1 k2 k3 k4 k5 k6 HMAY
    go_wp2
    go_ret
    exact ⟨none, 0, rfl, Lib.hid (World.ownsRow_nil _ _ _ _), HB1⟩
end Go.Proofs.Ytekcnmimfhiblaa

/-
  package pdu as landed: Encode, code, Right.
-/
namespace Go.Proofs.Ytekcnmimfhiblaa
open Go.RowKit
open Go.Great

/-- Text, in a world that grew from an elder one. -/
theorem opd_textU (W0 : World) (p : Pdu) (A : Option Addr) (c : Nat) (hk : p.ok) (hn : p.body.length ≤ 2000) (W : World) (hs : Sl W 1 A p.body.length c (u8s p.body)) (hW : Below W0.heap.size W0 W) :
    Calls Try.prog 58 #[pdV p A c] W fun e w' => ∃ A' c', e = .returned (.slice A' (pdText p).length c') ∧ Hid (w'.ownsRow W.heap.size 5 1 (.slice A' (pdText p).length c') (pdText p).length (u8s (pdText p))) ∧ Hid (Below W.heap.size W w') ∧ Below W0.heap.size W0 w' :=
  (opd_text p A c hk hn W hs).mono fun _ _ ⟨A', c', h1, h2, h3⟩ => ⟨A', c', h1, h2, h3, hW.trans (h3.out.mono hW.size)⟩
theorem pdText_le (p : Pdu) : (pdText p).length ≤ 1100 := by
  by_cases hm : pdMay p
  · exact text_len hm
  · unfold pdText; rw [if_neg hm]; simp

set_option maxRecDepth 100000 in
set_option maxHeartbeats 4000000 in
theorem opd_encode (p : Pdu) (A : Option Addr) (c : Nat) (hk : p.ok) (hn : p.body.length ≤ 2000) (w : World) (hs : Sl w 1 A p.body.length c (u8s p.body)) :
    Calls Try.prog 47 #[pdV p A c] w (EncPost (pdEnc p) (if pdMay p then 0 else 1) w) := by
  have HMAY := Lib.hid (fun W => opd_may p A c hk hn W)
  obtain ⟨wa, hwa, hba, hsa, hkc⟩ := pd_box p A c w
  have HBA := Lib.hid hba; have HWA := Lib.hid hwa; have HKC := Lib.hid hkc
  have HT := Lib.hid (fun W (hW : Below wa.heap.size wa W) => opd_textU wa p A c hk hn W (Sl.under hs (hba.trans (hW.mono hba.size))) hW)
  have HH := Lib.hid (fun W => opd_has p.kind W)
  obtain ⟨k0, k1, k2, k3, k4, k5, k6⟩ := hkc wa (Below.refl _ _)
  unfold EncPost
  by_cases hm : pdMay p
  · rw [if_pos hm]
    rw [decide_eq_true hm] at HMAY
    have hl := text_len hm
    have hmac := hk.2.2.2
    have hkk : 1 ≤ p.kind := by have := hm.2.2; unfold pdForm at this; omega
    have hen : pdEnc p = pdText p ++ (if 1 < p.kind then beB p.mac 8 else []) := by unfold pdEnc pdEncV pdText; rw [if_pos hm, if_pos hm]
    rw [hen]
    have HXM := Lib.hid (fun W (hW : Below wa.heap.size wa W) => opd_bytesU wa p.mac 8 (p.mac : Nat) 8 rfl rfl hmac (by decide) W hW)
    unfold pdV pdA at *
    clear hba hwa hkc hsa hs hk hm hen
    generalize pdText p = T at *
    by_cases h1 : p.kind = 1
    · have hE : T ++ (if 1 < p.kind then beB p.mac 8 else []) = T := by rw [if_neg (by omega), List.append_nil]
      rw [hE]
      rw [decide_eq_false (by simpa using h1)] at HH
      clear hE h1 hkk hmac
      go_enter Try.func47, Try.ntmps47
      go_wp2_with fail
      rw [HWA.out]
      clear HWA
      refine (HMAY.out _).mono ?_
      rintro e w1 ⟨rfl, hb1⟩
      have HB1 := Lib.hid hb1
      clear hb1 k0 k1 k2 k3 k4 k5 k6 HMAY
      obtain ⟨k0, k1, k2, k3, k4, k5, k6⟩ := HKC.out w1 HB1.out
      go_wp2_with fail
      refine (HH.out _).mono ?_
      rintro e w1' ⟨rfl, rfl⟩
      go_wp2_with fail
      refine (HT.out _ HB1.out).mono ?_
      rintro e w2 ⟨A2, c2, rfl, ho2, hb2, hc2⟩
      have HO := Lib.hid (own_lower ho2.out (Nat.le_trans HBA.out.size HB1.out.size))
      have HB := Lib.hid (HBA.out.trans (hc2.mono HBA.out.size))
      clear ho2 hb2 hc2 k0 k1 k2 k3 k4 k5 k6
      go_wp2
      go_ret2
      exact ⟨A2, c2, rfl, HO, HB⟩
    · have hE : T ++ (if 1 < p.kind then beB p.mac 8 else []) = T ++ beB p.mac 8 := by rw [if_pos (by omega)]
      rw [hE]
      rw [decide_eq_true (by simpa using h1)] at HH
      have HT2 : Hid (∀ (A2 A3 : Option Addr) (c2 c3 : Nat), cat9 [⟨A2, T.length, c2, T⟩, ⟨A3, 8, c3, beB p.mac 8⟩] = T ++ beB p.mac 8) := Lib.hid (fun _ _ _ _ => by simp [cat9])
      have HJ := Lib.hid (fun (A2 A3 : Option Addr) (c2 c3 : Nat) (W : World) (hW : Below wa.heap.size wa W) (h2 : Sl W 1 A2 T.length c2 (u8s T)) (h3 : Sl W 1 A3 8 c3 (u8s (beB p.mac 8))) => opd_joinU [⟨A2, T.length, c2, T⟩, ⟨A3, 8, c3, beB p.mac 8⟩] 2 rfl (by decide) w wa W HBA.out hW ⟨⟨h2, rfl, by show T.length ≤ 2000; omega⟩, ⟨h3, rfl, Nat.le_of_ble_eq_true rfl⟩, trivial⟩ _ rfl)
      clear hE h1 hkk hmac
      go_enter Try.func47, Try.ntmps47
      go_wp2_with fail
      rw [HWA.out]
      clear HWA
      refine (HMAY.out _).mono ?_
      rintro e w1 ⟨rfl, hb1⟩
      have HB1 := Lib.hid hb1
      clear hb1 k0 k1 k2 k3 k4 k5 k6 HMAY
      obtain ⟨k0, k1, k2, k3, k4, k5, k6⟩ := HKC.out w1 HB1.out
      go_wp2_with fail
      refine (HH.out _).mono ?_
      rintro e w1' ⟨rfl, rfl⟩
      have hbd := HB1.out
      have hbd2 := below_dr HB1.out
      go_upto_region 5 with fail
      go_region_held3 (fun W => W.cell? ⟨w.heap.size, 0, none⟩ = some (.int .i64 p.kind) ∧ W.cell? ⟨w.heap.size, 1, none⟩ = some (.int .i64 p.dir) ∧ W.cell? ⟨w.heap.size, 2, none⟩ = some (.int .i64 p.train) ∧ W.cell? ⟨w.heap.size, 3, none⟩ = some (.int .u32 (p.a : Nat)) ∧ W.cell? ⟨w.heap.size, 4, none⟩ = some (.int .u32 (p.b : Nat)) ∧ W.cell? ⟨w.heap.size, 5, none⟩ = some (.slice A p.body.length c) ∧ W.cell? ⟨w.heap.size, 6, none⟩ = some (.int .u64 (p.mac : Nat)))
        (first | exact HKC.out _ (by assumption) | go_keep) (first
        | (go_at_call 58; (with_reducible refine (HT.out _ (by assumption)).mono ?_); rintro e wT ⟨A2, c2, rfl, hoT, hbT, hcT⟩)
        | (go_at_call 60; (with_reducible refine (HXM.out _ (by assumption)).mono ?_); rintro e wB ⟨A3, c3, rfl, hoB, hbB, hcB⟩)
        | (go_at_call 59; have hq2 := Sl.of_own (own_under hoT.out hbB.out (Nat.le_refl _)); have hq3 := Sl.of_own hoB.out; refine (HJ.out A2 A3 c2 c3 wB hcB hq2 hq3).mono ?_; rintro e w9 ⟨A9, c9, rfl, ho9, hb9, hc9⟩)
        | (go_at_call 59; have hq3 := Sl.of_own (own_under hoB.out hbT.out (Nat.le_refl _)); have hq2 := Sl.of_own hoT.out; refine (HJ.out A2 A3 c2 c3 wT hcT hq2 hq3).mono ?_; rintro e w9 ⟨A9, c9, rfl, ho9, hb9, hc9⟩))
      all_goals
        rw [HT2.out] at ho9
        go_wp2
        go_ret2
        rw [HT2.out]
        exact ⟨A9, c9, rfl, ho9, hb9⟩
  · have he : pdEnc p = [] := by unfold pdEnc; rw [if_neg hm]
    rw [he, if_neg hm]
    rw [decide_eq_false hm] at HMAY
    unfold pdV pdA at *
    clear hba hwa hkc hsa hs hk hm he HT HH
    go_enter Try.func47, Try.ntmps47
    go_wp2_with fail
    rw [HWA.out]
    clear HWA
    refine (HMAY.out _).mono ?_
    rintro e w1 ⟨rfl, hb1⟩
    have HB1 := Lib.hid (HBA.out.trans (hb1.mono HBA.out.size))
    clear hb1 k0 k1 k2 k3 k4 k5 k6 HMAY
    go_wp2
    go_ret2
    exact ⟨none, 0, rfl, Lib.hid (World.ownsRow_nil _ _ _ _), HB1⟩
end Go.Proofs.Ytekcnmimfhiblaa
