/-
  linesideref09: Right, Same, by contract.
-/
import Derived.Test.YtekcnmimfhiblaaPdSeal
import Derived.BigQuiet
import Derived.Deep.QuietTactic
namespace Go.Proofs.Ytekcnmimfhiblaa
open Go.RowKit
open Go.Great

/-- Two PDUs are the same. -/
def pdEqB (p q : Pdu) : Bool := p.kind == q.kind && (p.dir == q.dir && (p.train == q.train && (p.a == q.a && (p.b == q.b && (decide (p.body = q.body) && p.mac == q.mac)))))
theorem pdEq_iff (p q : Pdu) : pdEqB p q = true ↔ p = q := by
  obtain ⟨a, b, c, d, e, f, g⟩ := p
  obtain ⟨a', b', c', d', e', f', g'⟩ := q
  simp [pdEqB]
theorem pdEq_self (p : Pdu) : pdEqB p p = true := (pdEq_iff p p).2 rfl
/-- Two PDUs opened. -/
theorem pd_box2 (p q : Pdu) (A B : Option Addr) (c d : Nat) (w : World) : ∃ wa, (w.alloc (.cells #[.int .i64 p.kind, .int .i64 p.dir, .int .i64 p.train, .int .u32 (p.a : Nat), .int .u32 (p.b : Nat), .slice A p.body.length c, .int .u64 (p.mac : Nat)] 30)).alloc (.cells #[.int .i64 q.kind, .int .i64 q.dir, .int .i64 q.train, .int .u32 (q.a : Nat), .int .u32 (q.b : Nat), .slice B q.body.length d, .int .u64 (q.mac : Nat)] 30) = wa ∧ Below w.heap.size w wa ∧
    Has wa w.heap.size 30 (pdA p A c) ∧ Has wa (w.heap.size + 1) 30 (pdA q B d) :=
  ⟨_, rfl, ((Below.refl _ _).alloc (Nat.le_refl _) _).alloc (by simp) _, (Has.made _ _ _).beside _, has_at (by simp)⟩
/-- A key and a PDU opened. -/
theorem pd_boxK (k : Key4) (p : Pdu) (A : Option Addr) (c : Nat) (w : World) : ∃ wa, (w.alloc (.cells #[.int .u32 (k.a : Nat), .int .u32 (k.b : Nat), .int .u32 (k.c : Nat), .int .u32 (k.d : Nat)] 24)).alloc (.cells #[.int .i64 p.kind, .int .i64 p.dir, .int .i64 p.train, .int .u32 (p.a : Nat), .int .u32 (p.b : Nat), .slice A p.body.length c, .int .u64 (p.mac : Nat)] 30) = wa ∧ Below w.heap.size w wa ∧
    Has wa w.heap.size 24 (keyA k) ∧ Has wa (w.heap.size + 1) 30 (pdA p A c) :=
  ⟨_, rfl, ((Below.refl _ _).alloc (Nat.le_refl _) _).alloc (by simp) _, (Has.made _ _ _).beside _, has_at (by simp)⟩
theorem nat_beq (a b : Nat) : ((a : Int) == (b : Int)) = (a == b) := by
  by_cases h : a = b
  · rw [h]; simp
  · rw [beq_eq_false_iff_ne.2 h, beq_eq_false_iff_ne]; omega

set_option maxRecDepth 100000 in
set_option maxHeartbeats 4000000 in
theorem ref_same (p q : Pdu) (A B : Option Addr) (c d : Nat) (hbp : bytes8 p.body) (hbq : bytes8 q.body) (w : World) (hs : Sl w 1 A p.body.length c (u8s p.body)) (ht : Sl w 1 B q.body.length d (u8s q.body)) :
    Calls Try.prog 12 #[pdV p A c, pdV q B d] w fun e w' => e = .returned (.bool (pdEqB p q)) ∧ Below w.heap.size w w' := by
  obtain ⟨wa, hwa, hba, hpa, hqa⟩ := pd_box2 p q A B c d w
  have hc1 := conv8 A c p.body wa (at8_low8 (sl_at8 hs) hba)
  have hc2 := conv8 B d q.body wa (at8_low8 (sl_at8 ht) hba)
  have hsb := str8_beq hbp hbq
  have HWA := Lib.hid hwa; have HBA := Lib.hid hba
  obtain ⟨c0, c1, c2, c3, c4, c5, c6⟩ := has_seven hpa
  obtain ⟨d0, d1, d2, d3, d4, d5, d6⟩ := has_seven hqa
  have ea := nat_beq p.a q.a
  have eb := nat_beq p.b q.b
  have em := nat_beq p.mac q.mac
  unfold pdEqB
  obtain ⟨b0, h0⟩ : ∃ b0, (p.kind == q.kind) = b0 := ⟨_, rfl⟩
  obtain ⟨b1, h1⟩ : ∃ b1, (p.dir == q.dir) = b1 := ⟨_, rfl⟩
  obtain ⟨b2, h2⟩ : ∃ b2, (p.train == q.train) = b2 := ⟨_, rfl⟩
  obtain ⟨b3, h3⟩ : ∃ b3, (p.a == q.a) = b3 := ⟨_, rfl⟩
  obtain ⟨b4, h4⟩ : ∃ b4, (p.b == q.b) = b4 := ⟨_, rfl⟩
  obtain ⟨b5, h5⟩ : ∃ b5, decide (p.body = q.body) = b5 := ⟨_, rfl⟩
  obtain ⟨b6, h6⟩ : ∃ b6, (p.mac == q.mac) = b6 := ⟨_, rfl⟩
  rw [h3] at ea
  rw [h4] at eb
  rw [h5] at hsb
  rw [h6] at em
  rw [h0, h1, h2, h3, h4, h5, h6]
  clear hwa hba hpa hqa hs ht h3 h4 h5 h6
  generalize str8 p.body = S1 at *
  generalize str8 q.body = S2 at *
  unfold pdV pdA
  go_enter Try.func12, Try.ntmps12
  go_upto_region 1 with fail
  rw [HWA.out]
  clear HWA
  cases b0 with
  | false =>
    go_wp2
    go_ret
    exact ⟨rfl, HBA.out⟩
  | true =>
    cases b1 with
    | false =>
      go_wp2
      go_ret
      exact ⟨rfl, HBA.out⟩
    | true =>
      cases b2 with
      | false =>
        go_wp2
        go_ret
        exact ⟨rfl, HBA.out⟩
      | true =>
        cases b3 with
        | false =>
          go_wp2
          go_ret
          exact ⟨rfl, HBA.out⟩
        | true =>
          cases b4 with
          | false =>
            go_wp2
            go_ret
            exact ⟨rfl, HBA.out⟩
          | true =>
            cases b5 with
            | false =>
              go_wp2
              go_ret
              exact ⟨rfl, HBA.out⟩
            | true =>
              go_wp2
              go_ret
              exact ⟨by simp, HBA.out⟩

set_option maxRecDepth 100000 in
set_option maxHeartbeats 4000000 in
theorem ref_right (k : Key4) (hkk : k.ok) (p : Pdu) (A : Option Addr) (c : Nat) (hk : p.ok) (hn : p.body.length ≤ 2000) (w : World) (hs : Sl w 1 A p.body.length c (u8s p.body)) :
    Calls Try.prog 38 #[keyV k, pdV p A c] w fun e w' => e = .returned (.bool (decide (pdRight k p))) ∧ Below w.heap.size w w' := by
  obtain ⟨wa, hwa, hba, hka, hpa⟩ := pd_boxK k p A c w
  have HMAY := Lib.hid (fun W => ref_may p A c hk (by omega) W)
  have HT := Lib.hid (fun W (hW : Below w.heap.size w W) => ref_text p A c hk hn W (Sl.under hs hW))
  have HMC := Lib.hid (fun A c xs W ha hb hn => ref_mac k hkk A c xs W ha hb hn)
  have H8 := Lib.hid (text_8 (p := p) hk.2.2.1)
  have HWA := Lib.hid hwa; have HBA := Lib.hid hba
  have HK := Lib.hid (fun W (hW : Below wa.heap.size wa W) => key_cells (k := k) (hka.under hW hka.lt))
  have HP := Lib.hid (fun W (hW : Below wa.heap.size wa W) => has_seven (hpa.under hW hpa.lt))
  obtain ⟨c0, c1, c2, c3, c4, c5, c6⟩ := has_seven hpa
  by_cases hm : pdMay p
  · have hl := text_len hm
    rw [decide_eq_true hm] at HMAY
    by_cases hkd : 1 < p.kind
    · have hR : decide (pdRight k p) = ((p.mac : Int) == (macF k (pdText p) : Int)) := by
        rw [nat_beq, Bool.eq_iff_iff]
        simp [pdRight, hm, hkd]
      rw [hR]
      obtain ⟨b, hb⟩ : ∃ b, ((p.mac : Int) == (macF k (pdText p) : Int)) = b := ⟨_, rfl⟩
      rw [hb]
      clear hwa hba hka hpa hk hs hm hR
      unfold keyV keyA pdV pdA at *
      go_enter Try.func38, Try.ntmps38
      go_wp2_with fail
      rw [HWA.out]
      refine (HMAY.out _).mono ?_
      rintro e w1 ⟨rfl, hb1⟩
      clear c0 c1 c2 c3 c4 c5 c6 HMAY HWA
      have HB1 := Lib.hid hb1
      obtain ⟨c0, c1, c2, c3, c4, c5, c6⟩ := HP.out w1 hb1
      obtain ⟨k0, k1, k2, k3⟩ := HK.out w1 hb1
      have HW1 := Lib.hid (HBA.out.trans (hb1.mono HBA.out.size))
      clear hb1
      go_upto_region 2 with fail
      go_region_held3 (fun W => (W.cell? ⟨w.heap.size, 0, none⟩ = some (.int .u32 (k.a : Nat)) ∧ W.cell? ⟨w.heap.size, 1, none⟩ = some (.int .u32 (k.b : Nat)) ∧ W.cell? ⟨w.heap.size, 2, none⟩ = some (.int .u32 (k.c : Nat)) ∧ W.cell? ⟨w.heap.size, 3, none⟩ = some (.int .u32 (k.d : Nat))) ∧ W.cell? ⟨w.heap.size + 1, 0, none⟩ = some (.int .i64 p.kind) ∧ W.cell? ⟨w.heap.size + 1, 1, none⟩ = some (.int .i64 p.dir) ∧ W.cell? ⟨w.heap.size + 1, 2, none⟩ = some (.int .i64 p.train) ∧ W.cell? ⟨w.heap.size + 1, 3, none⟩ = some (.int .u32 (p.a : Nat)) ∧ W.cell? ⟨w.heap.size + 1, 4, none⟩ = some (.int .u32 (p.b : Nat)) ∧ W.cell? ⟨w.heap.size + 1, 5, none⟩ = some (.slice A p.body.length c) ∧ W.cell? ⟨w.heap.size + 1, 6, none⟩ = some (.int .u64 (p.mac : Nat)))
        (first | exact ⟨HK.out _ (by assumption), HP.out _ (by assumption)⟩ | go_keep) (first
        | (go_at_call 54; (with_reducible refine (HT.out _ (below_dr HW1.out)).mono ?_); rintro e w2 ⟨A2, c2, rfl, ho2, hb2⟩; have hb12 := (below_dr HB1.out).trans (hb2.out.mono HB1.out.size))
        | (go_at_call 53; (with_reducible refine (HMC.out _ _ _ _ (at8_own ho2.out) H8.out (by omega)).mono ?_); rintro e w3 ⟨rfl, hb3⟩; have hb13 := hb12.trans (hb3.mono hb12.size)))
      all_goals
        have HBF := Lib.hid (HBA.out.trans (hb13.mono HBA.out.size))
        go_wp2
        go_ret
        exact ⟨rfl, HBF.out⟩
    · have hR : decide (pdRight k p) = false := by rw [decide_eq_false_iff_not]; exact fun h => hkd h.2.1
      rw [hR]
      have hkf : decide (1 < p.kind) = false := decide_eq_false hkd
      clear hwa hba hka hpa hk hs hm hR HT HMC H8
      unfold keyV keyA pdV pdA at *
      go_enter Try.func38, Try.ntmps38
      go_wp2_with fail
      rw [HWA.out]
      refine (HMAY.out _).mono ?_
      rintro e w1 ⟨rfl, hb1⟩
      clear c0 c1 c2 c3 c4 c5 c6 HMAY HWA
      obtain ⟨c0, c1, c2, c3, c4, c5, c6⟩ := HP.out w1 hb1
      have HBF := Lib.hid (HBA.out.trans (hb1.mono HBA.out.size))
      clear hb1 HP HK
      go_upto_region 2 with fail
      go_quiet (fail)
      go_wp2
      go_ret
      exact ⟨rfl, below_draws HBF.out _⟩
  · have hR : decide (pdRight k p) = false := by rw [decide_eq_false_iff_not]; exact fun h => hm h.1
    rw [hR]
    rw [decide_eq_false hm] at HMAY
    clear hwa hba hka hpa hk hs hm hR HT HMC H8
    unfold keyV keyA pdV pdA at *
    go_enter Try.func38, Try.ntmps38
    go_wp2_with fail
    rw [HWA.out]
    refine (HMAY.out _).mono ?_
    rintro e w1 ⟨rfl, hb1⟩
    clear c0 c1 c2 c3 c4 c5 c6 HMAY HWA
    obtain ⟨c0, c1, c2, c3, c4, c5, c6⟩ := HP.out w1 hb1
    have HBF := Lib.hid (HBA.out.trans (hb1.mono HBA.out.size))
    clear hb1 HP HK
    go_upto_region 2 with fail
    go_quiet (fail)
    go_wp2
    go_ret
    exact ⟨rfl, below_draws HBF.out _⟩
end Go.Proofs.Ytekcnmimfhiblaa
