/-
  linesideref09: Seal, Right, Same, by contract.
-/
import Derived.Test.YtekcnmimfhiblaaMgC
import Derived.Deep.RegionWith
namespace Go.Proofs.Ytekcnmimfhiblaa
open Go.RowKit
open Go.Great

theorem seal_ok {k : Key4} {p : Pdu} (hk : k.ok) (hp : p.ok) : (pdSeal k p).ok := by
  unfold pdSeal
  split
  · rename_i h
    exact ⟨hp.1, hp.2.1, hp.2.2.1, macF_lt hk (text_8 hp.2.2.1) (by have := text_len h.1; omega)⟩
  · exact hp
theorem seal_body (k : Key4) (p : Pdu) : (pdSeal k p).body = p.body := by
  unfold pdSeal
  split <;> rfl
/-- A key and a PDU opened, and a PDU to hand back. -/
theorem pd_box3 (k : Key4) (p : Pdu) (A : Option Addr) (c : Nat) (w : World) : ∃ wa, ((w.alloc (.cells #[.int .u32 (k.a : Nat), .int .u32 (k.b : Nat), .int .u32 (k.c : Nat), .int .u32 (k.d : Nat)] 24)).alloc (.cells #[.int .i64 p.kind, .int .i64 p.dir, .int .i64 p.train, .int .u32 (p.a : Nat), .int .u32 (p.b : Nat), .slice A p.body.length c, .int .u64 (p.mac : Nat)] 30)).alloc (.cells #[.int .i64 0, .int .i64 0, .int .i64 0, .int .u32 0, .int .u32 0, .slice none 0 0, .int .u64 0] 30) = wa ∧ Below w.heap.size w wa ∧ wa.heap.size = w.heap.size + 3 ∧
    Has wa w.heap.size 24 (keyA k) ∧ Has wa (w.heap.size + 1) 30 (pdA p A c) ∧ Has wa (w.heap.size + 1 + 1) 30 #[.int .i64 0, .int .i64 0, .int .i64 0, .int .u32 0, .int .u32 0, .slice none 0 0, .int .u64 0] :=
  ⟨_, rfl, (((Below.refl _ _).alloc (Nat.le_refl _) _).alloc (by simp) _).alloc (by simp; omega) _, by simp, ((Has.made _ _ _).beside _).beside _, (has_at (by simp)).beside _, has_at (by simp)⟩

set_option maxRecDepth 100000 in
set_option maxHeartbeats 4000000 in
theorem ref_seal (k : Key4) (hkk : k.ok) (p : Pdu) (A : Option Addr) (c : Nat) (hk : p.ok) (hn : p.body.length ≤ 2000) (w : World) (hs : Sl w 1 A p.body.length c (u8s p.body)) :
    Calls Try.prog 35 #[keyV k, pdV p A c] w fun e w' => e = .returned (pdV (pdSeal k p) A c) ∧ Below w.heap.size w w' := by
  obtain ⟨wa, hwa, hba, hsa, hka, hpa, hza⟩ := pd_box3 k p A c w
  have HMAY := Lib.hid (fun W => ref_may p A c hk (by omega) W)
  have HT := Lib.hid (fun W (hW : Below w.heap.size w W) => ref_text p A c hk hn W (Sl.under hs hW))
  have HMC := Lib.hid (fun A c xs W ha hb hn => ref_mac k hkk A c xs W ha hb hn)
  have H8 := Lib.hid (text_8 (p := p) hk.2.2.1)
  have HWA := Lib.hid hwa; have HBA := Lib.hid hba; have HSA := Lib.hid hsa
  have HK := Lib.hid (fun W (hW : Below wa.heap.size wa W) => key_cells (k := k) (hka.under hW hka.lt))
  have HP := Lib.hid (fun W (hW : Below wa.heap.size wa W) => has_seven (hpa.under hW hpa.lt))
  have HF := Lib.hid (fun W (hW : Below wa.heap.size wa W) => (thaw_seven (hpa.under hW hpa.lt)).2.2.2.2.2.2)
  have HPA := Lib.hid hpa; have HZA := Lib.hid hza
  obtain ⟨c0, c1, c2, c3, c4, c5, c6⟩ := has_seven hpa
  by_cases hm : pdMay p ∧ 1 < p.kind
  · have hkd := hm.2
    have hl := text_len hm.1
    rw [decide_eq_true hm.1] at HMAY
    have hS : pdSeal k p = { p with mac := macF k (pdText p) } := by unfold pdSeal; rw [if_pos hm]
    have HS := Lib.hid hS
    clear hwa hba hsa hka hpa hza hk hs hm hS
    unfold keyV keyA pdV pdA at *
    go_enter Try.func35, Try.ntmps35
    go_wp2_with fail
    rw [HWA.out]
    refine (HMAY.out _).mono ?_
    rintro e w1 ⟨rfl, hb1⟩
    clear c0 c1 c2 c3 c4 c5 c6 HMAY HWA
    have HB1 := Lib.hid hb1
    obtain ⟨c0, c1, c2, c3, c4, c5, c6⟩ := HP.out w1 hb1
    obtain ⟨k0, k1, k2, k3⟩ := HK.out w1 hb1
    clear hb1
    go_wp2_with fail
    have hpa3 := fun W (hW : Below wa.heap.size wa W) => HPA.out.under hW HPA.out.lt
    have hB1 := HB1.out
    have hw1 := HBA.out.trans (hB1.mono HBA.out.size)
    have HW1 := Lib.hid hw1
    clear hB1 hw1
    go_cut [] (fun wx => Has wx (w.heap.size + 1) 30 #[.int .i64 p.kind, .int .i64 p.dir, .int .i64 p.train, .int .u32 (p.a : Nat), .int .u32 (p.b : Nat), .slice A p.body.length c, .int .u64 (macF k (pdText p) : Nat)] ∧ Has wx (w.heap.size + 1 + 1) 30 #[.int .i64 0, .int .i64 0, .int .i64 0, .int .u32 0, .int .u32 0, .slice none 0 0, .int .u64 0] ∧ Below w.heap.size w wx)
    case first =>
      go_upto_region 3 with fail
      go_region_with (first
        | (go_at_call 54; (with_reducible refine (HT.out _ (below_dr HW1.out)).mono ?_); rintro e w2 ⟨A2, c2, rfl, ho2, hb2⟩; have hb12 := (below_dr HB1.out).trans (hb2.out.mono HB1.out.size); obtain ⟨k0', k1', k2', k3'⟩ := HK.out w2 hb12; obtain ⟨q0, q1, q2, q3, q4, q5, q6⟩ := HP.out w2 hb12)
        | (go_at_call 53; (with_reducible refine (HMC.out _ _ _ _ (at8_own ho2.out) H8.out (by omega)).mono ?_); rintro e w3 ⟨rfl, hb3⟩; have hb13 := hb12.trans (hb3.mono hb12.size); obtain ⟨r0, r1, r2, r3, r4, r5, r6⟩ := HP.out w3 hb13; have f6 := HF.out w3 hb13))
      all_goals
        have hp3 := (hpa3 w3 hb13).stored 6 (.int .u64 (macF k (pdText p) : Nat))
        have hz3 := (HZA.out.under hb13 HZA.out.lt).apart (p := ⟨w.heap.size + 1, 6, none⟩) (by show w.heap.size + 1 + 1 ≠ w.heap.size + 1; omega) (.int .u64 (macF k (pdText p) : Nat))
        have hb3 := (HBA.out.trans (hb13.mono HBA.out.size)).setCell (p := ⟨w.heap.size + 1, 6, none⟩) (by show w.heap.size ≤ w.heap.size + 1; omega) (.int .u64 (macF k (pdText p) : Nat))
        go_wp2_with fail
        go_meet
        exact ⟨hp3, hz3, hb3⟩
    case rest =>
      obtain ⟨hp3, hz3, hb3⟩ := hcut
      clear c0 c1 c2 c3 c4 c5 c6 k0 k1 k2 k3 HMC HT HK HP HF HPA HZA HB1 H8
      generalize macF k (pdText p) = m at *
      obtain ⟨c0, c1, c2, c3, c4, c5, c6⟩ := has_seven hp3
      have HE : Hid (wc.heap[w.heap.size + 1 + 1]? = some (.cells #[.int .i64 0, .int .i64 0, .int .i64 0, .int .u32 0, .int .u32 0, .slice none 0 0, .int .u64 0] 30 (0, 0))) := Lib.hid hz3
      have HR := Lib.hid (has_setRow7 HE.out #[.int .i64 p.kind, .int .i64 p.dir, .int .i64 p.train, .int .u32 (p.a : Nat), .int .u32 (p.b : Nat), .slice A p.body.length c, .int .u64 (m : Nat)])
      have HBF := Lib.hid (below_row (g := w.heap.size + 1 + 1) hb3 (by omega) #[.int .i64 p.kind, .int .i64 p.dir, .int .i64 p.train, .int .u32 (p.a : Nat), .int .u32 (p.b : Nat), .slice A p.body.length c, .int .u64 (m : Nat)])
      clear hp3 hz3 hb3
      go_wp2_with (with_reducible refine wpList_store_rowTo (o := ⟨none, _, _, _, _, _⟩) rfl 30 _ _ rfl rfl (w.heap.size + 1 + 1) #[.int .i64 p.kind, .int .i64 p.dir, .int .i64 p.train, .int .u32 (p.a : Nat), .int .u32 (p.b : Nat), .slice A p.body.length c, .int .u64 (m : Nat)] rfl rfl 30 _ HE.out (by kernel_rfl) (by kernel_rfl) (by kernel_rfl) ?_)
      refine bodyPost_ret (results_cell_row rfl _ _ (w.heap.size + 1 + 1) 30 _ _ _ rfl HR.out Try.underlying30 rfl (by kernel_rfl)) rfl ?_
      exact ⟨by rw [HS.out], HBF.out⟩
  · have hS : pdSeal k p = p := by unfold pdSeal; rw [if_neg hm]
    rw [hS]
    have hw3 : pdMay p → ¬ 1 < p.kind := fun h h2 => hm ⟨h, h2⟩
    obtain ⟨b, hb⟩ : ∃ b, decide (pdMay p) = b := ⟨_, rfl⟩
    rw [hb] at HMAY
    have hkb : b = true → ¬ 1 < p.kind := fun h => hw3 (of_decide_eq_true (hb.trans h))
    clear hwa hba hsa hka hpa hza hk hs hm hS hw3 hb HT HMC H8
    unfold keyV keyA pdV pdA at *
    rcases b with _ | _
    · clear hkb
      go_enter Try.func35, Try.ntmps35
      go_wp2_with fail
      rw [HWA.out]
      refine (HMAY.out _).mono ?_
      rintro e w1 ⟨rfl, hb1⟩
      clear c0 c1 c2 c3 c4 c5 c6 HMAY HWA HK
      obtain ⟨c0, c1, c2, c3, c4, c5, c6⟩ := HP.out w1 hb1
      have hz1 := HZA.out.under hb1 HZA.out.lt
      have hbb := HBA.out.trans (hb1.mono HBA.out.size)
      have HE : Hid (w1.heap[w.heap.size + 1 + 1]? = some (.cells #[.int .i64 0, .int .i64 0, .int .i64 0, .int .u32 0, .int .u32 0, .slice none 0 0, .int .u64 0] 30 (0, 0))) := Lib.hid hz1
      have HR := Lib.hid (has_setRow7 HE.out #[.int .i64 p.kind, .int .i64 p.dir, .int .i64 p.train, .int .u32 (p.a : Nat), .int .u32 (p.b : Nat), .slice A p.body.length c, .int .u64 (p.mac : Nat)])
      have HBF := Lib.hid (below_row (g := w.heap.size + 1 + 1) hbb (by omega) #[.int .i64 p.kind, .int .i64 p.dir, .int .i64 p.train, .int .u32 (p.a : Nat), .int .u32 (p.b : Nat), .slice A p.body.length c, .int .u64 (p.mac : Nat)])
      clear hz1 hbb hb1
      go_wp2_with (with_reducible refine wpList_store_rowTo (o := ⟨none, _, _, _, _, _⟩) rfl 30 _ _ rfl rfl (w.heap.size + 1 + 1) #[.int .i64 p.kind, .int .i64 p.dir, .int .i64 p.train, .int .u32 (p.a : Nat), .int .u32 (p.b : Nat), .slice A p.body.length c, .int .u64 (p.mac : Nat)] rfl rfl 30 _ HE.out (by kernel_rfl) (by kernel_rfl) (by kernel_rfl) ?_)
      refine bodyPost_ret (results_cell_row rfl _ _ (w.heap.size + 1 + 1) 30 _ _ _ rfl HR.out Try.underlying30 rfl (by kernel_rfl)) rfl ?_
      exact ⟨rfl, HBF.out⟩
    · have hkd : ¬ 1 < p.kind := hkb rfl
      clear hkb
      go_enter Try.func35, Try.ntmps35
      go_wp2_with fail
      rw [HWA.out]
      refine (HMAY.out _).mono ?_
      rintro e w1 ⟨rfl, hb1⟩
      clear c0 c1 c2 c3 c4 c5 c6 HMAY HWA HK
      obtain ⟨c0, c1, c2, c3, c4, c5, c6⟩ := HP.out w1 hb1
      have hz1 := HZA.out.under hb1 HZA.out.lt
      have hbb := HBA.out.trans (hb1.mono HBA.out.size)
      have HE : Hid (w1.heap[w.heap.size + 1 + 1]? = some (.cells #[.int .i64 0, .int .i64 0, .int .i64 0, .int .u32 0, .int .u32 0, .slice none 0 0, .int .u64 0] 30 (0, 0))) := Lib.hid hz1
      have HR := Lib.hid (has_setRow7 HE.out #[.int .i64 p.kind, .int .i64 p.dir, .int .i64 p.train, .int .u32 (p.a : Nat), .int .u32 (p.b : Nat), .slice A p.body.length c, .int .u64 (p.mac : Nat)])
      have HBF := Lib.hid (below_row (g := w.heap.size + 1 + 1) hbb (by omega) #[.int .i64 p.kind, .int .i64 p.dir, .int .i64 p.train, .int .u32 (p.a : Nat), .int .u32 (p.b : Nat), .slice A p.body.length c, .int .u64 (p.mac : Nat)])
      clear hz1 hbb hb1
      go_wp2_with (with_reducible refine wpList_store_rowTo (o := ⟨none, _, _, _, _, _⟩) rfl 30 _ _ rfl rfl (w.heap.size + 1 + 1) #[.int .i64 p.kind, .int .i64 p.dir, .int .i64 p.train, .int .u32 (p.a : Nat), .int .u32 (p.b : Nat), .slice A p.body.length c, .int .u64 (p.mac : Nat)] rfl rfl 30 _ HE.out (by kernel_rfl) (by kernel_rfl) (by kernel_rfl) ?_)
      refine bodyPost_ret (results_cell_row rfl _ _ (w.heap.size + 1 + 1) 30 _ _ _ rfl HR.out Try.underlying30 rfl (by kernel_rfl)) rfl ?_
      exact ⟨rfl, HBF.out⟩
end Go.Proofs.Ytekcnmimfhiblaa
