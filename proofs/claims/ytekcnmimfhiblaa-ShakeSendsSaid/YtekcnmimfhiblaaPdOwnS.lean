/-
  package pdu as landed: Seal.
-/
import Derived.Test.YtekcnmimfhiblaaPdOwnR
namespace Go.Proofs.Ytekcnmimfhiblaa
open Go.RowKit
open Go.Great

/-- What Seal hands back: the PDU, its body in memory of its own. -/
def SealPost (A : Option Addr) (q : Pdu) (w : World) (e : Ending) (w' : World) : Prop :=
  ∃ A' c', e = .returned (pdV q A' c') ∧ Hid (Sl w' 1 A' q.body.length c' (u8s q.body)) ∧ Hid (q.body.length ≤ c') ∧ Hid (∀ a, A' = some a → w.heap.size ≤ a.block) ∧ Hid (Below w.heap.size w w') ∧ Hid (A = none → A' = none ∧ c' = 0)
theorem own_row9 {w : World} {base g n c : Nat} {A : Option Addr} {xs : List Value} (h : w.ownsRow base 5 1 (.slice A n c) n xs) (hg : g < base) (cs : Array Value) : (w.setRow g cs).ownsRow base 5 1 (.slice A n c) n xs :=
  own_keep h (only_row w g cs) (fun e => by have := (h.lt _ e).1; omega)
theorem seal_end {w w' : World} {base c : Nat} {A0 A : Option Addr} {q : Pdu} (ho : w'.ownsRow base 5 1 (.slice A q.body.length c) q.body.length (u8s q.body)) (hb : w.heap.size ≤ base) (hB : Below w.heap.size w w') (hN : A0 = none → A = none ∧ c = 0) : SealPost A0 q w (.returned (pdV q A c)) w' :=
  ⟨A, c, rfl, Lib.hid (Sl.of_own ho), Lib.hid (own_cap9 ho), Lib.hid (fun a e => by
    have := (ho.lt a.block (by subst e; rfl)).1; omega), Lib.hid hB, Lib.hid hN⟩
set_option maxRecDepth 100000 in
set_option maxHeartbeats 4000000 in
theorem opd_seal (k : Key4) (hkk : k.ok) (p : Pdu) (A : Option Addr) (c : Nat) (hk : p.ok) (hn : p.body.length ≤ 2000) (w : World) (hs : Sl w 1 A p.body.length c (u8s p.body)) :
    Calls Try.prog 33 #[keyV k, pdV p A c] w (SealPost A (pdSeal k p) w) := by
  obtain ⟨wa, hwa, hba, hsa, hka, hpa, hza⟩ := pd_box3 k p A c w
  have HCL := Lib.hid (oclone_any A p.body.length c p.body rfl wa (sl_at8 (hs.under hba)) (by omega))
  have HMAY := Lib.hid (fun A c W => opd_may p A c hk hn W)
  have HH := Lib.hid (fun W => opd_has p.kind W)
  have HC := Lib.hid (fun A c W hs => opd_code k hkk p A c hk hn W hs)
  have HWA := Lib.hid hwa; have HBA := Lib.hid hba; have HSA := Lib.hid hsa
  have HKA := Lib.hid hka; have HPA := Lib.hid hpa; have HZA := Lib.hid hza
  obtain ⟨c0, c1, c2, c3, c4, c5, c6⟩ := has_seven hpa
  clear hwa hba hsa hka hpa hza hs
  have hcase : (pdMay p ∧ p.kind ≠ 1 ∧ pdSeal k p = { p with mac := macF k (pdText p) }) ∨ ((¬ pdMay p ∨ p.kind = 1) ∧ pdSeal k p = p) := by
    by_cases hm : pdMay p
    · have h3 : p.kind = 1 ∨ 1 < p.kind := by have := hm.2.2; unfold pdForm at this; omega
      rcases h3 with h | h
      · exact .inr ⟨.inr h, by unfold pdSeal; rw [if_neg (by omega)]⟩
      · exact .inl ⟨hm, by omega, by unfold pdSeal; rw [if_pos ⟨hm, h⟩]⟩
    · exact .inr ⟨.inl hm, by unfold pdSeal; rw [if_neg (fun h => hm h.1)]⟩
  unfold keyV keyA pdV pdA at *
  go_enter Try.func33, Try.ntmps33
  go_upto_region 1 with fail
  rw [HWA.out]
  clear HWA
  go_wp2_with fail
  refine HCL.out.mono ?_
  rintro e w1 ⟨A1, r1, rfl, ho1, hb1, HNL⟩
  clear c0 c1 c2 c3 c4 c5 c6 HCL
  have hp1 := HPA.out.under hb1.out HPA.out.lt
  have hk1 := HKA.out.under hb1.out HKA.out.lt
  have hz1 := HZA.out.under hb1.out HZA.out.lt
  have hB1 := HBA.out.trans (hb1.out.mono HBA.out.size)
  obtain ⟨c0, c1, c2, c3, c4, c5, c6⟩ := has_seven hp1
  have f5 := (thaw_seven hp1).2.2.2.2.2.1
  have hp2 := hp1.stored 5 (.slice A1 p.body.length r1)
  have hk2 := hk1.apart (p := ⟨w.heap.size + 1, 5, none⟩) (by show w.heap.size ≠ w.heap.size + 1; omega) (.slice A1 p.body.length r1)
  have hz2 := hz1.apart (p := ⟨w.heap.size + 1, 5, none⟩) (by show w.heap.size + 1 + 1 ≠ w.heap.size + 1; omega) (.slice A1 p.body.length r1)
  have hB2 := hB1.setCell (p := ⟨w.heap.size + 1, 5, none⟩) (by show w.heap.size ≤ w.heap.size + 1; omega) (.slice A1 p.body.length r1)
  have ho2 := ownsRow_setCell_below ho1.out (a := ⟨w.heap.size + 1, 5, none⟩) (by show w.heap.size + 1 < wa.heap.size; have := HSA.out; omega) (.slice A1 p.body.length r1)
  obtain ⟨w2, hw2⟩ : ∃ w2, w1.setCell ⟨w.heap.size + 1, 5, none⟩ (.slice A1 p.body.length r1) = w2 := ⟨_, rfl⟩
  rw [hw2] at hp2 hk2 hz2 hB2 ho2
  have HP2 : Hid (Has w2 (w.heap.size + 1) 30 #[.int .i64 p.kind, .int .i64 p.dir, .int .i64 p.train, .int .u32 (p.a : Nat), .int .u32 (p.b : Nat), .slice A1 p.body.length r1, .int .u64 (p.mac : Nat)]) := Lib.hid hp2
  have HK2 := Lib.hid hk2; have HZ2 := Lib.hid hz2; have HB2 := Lib.hid hB2; have HO2 := Lib.hid ho2; have HW2 := Lib.hid hw2
  clear hp1 hk1 hz1 hB1 ho1 hb1 hp2 hk2 hz2 hB2 ho2 hw2 HPA HKA HZA
  rcases hcase with ⟨hm, hkd, hS⟩ | ⟨hm, hS⟩
  · have HS := Lib.hid hS
    have HM := Lib.hid (HMAY.out A1 r1 w2)
    rw [decide_eq_true hm] at HM
    rw [decide_eq_true hkd] at HH
    clear hm hkd hS HMAY
    go_wp2_with fail
    rw [HW2.out]
    clear HW2 c0 c1 c2 c3 c4 c5 c6 f5
    obtain ⟨c0, c1, c2, c3, c4, c5, c6⟩ := has_seven HP2.out
    go_wp2_with fail
    refine HM.out.mono ?_
    rintro e w3 ⟨rfl, hb3⟩
    clear c0 c1 c2 c3 c4 c5 c6 HM
    obtain ⟨c0, c1, c2, c3, c4, c5, c6⟩ := has_seven (HP2.out.under hb3 HP2.out.lt)
    obtain ⟨k0, k1, k2, k3⟩ := key_cells (k := k) (HK2.out.under hb3 HK2.out.lt)
    have HB3 := Lib.hid hb3
    clear hb3
    go_wp2_with fail
    refine (HH.out _).mono ?_
    rintro e w3' ⟨rfl, rfl⟩
    go_wp2_with fail
    refine (HC.out A1 r1 w3' (Sl.of_own (own_under HO2.out HB3.out (Nat.le_refl _)))).mono ?_
    rintro e w4 ⟨rfl, hb4⟩
    have hb24 := HB3.out.trans (hb4.mono HB3.out.size)
    clear c0 c1 c2 c3 c4 c5 c6 k0 k1 k2 k3 HC hb4 HB3
    have hp4 := HP2.out.under hb24 HP2.out.lt
    have hz4 := HZ2.out.under hb24 HZ2.out.lt
    have hB4 := HB2.out.trans (hb24.mono HB2.out.size)
    have ho4 := own_under HO2.out hb24 (Nat.le_refl _)
    obtain ⟨c0, c1, c2, c3, c4, c5, c6⟩ := has_seven hp4
    have f6 := (thaw_seven hp4).2.2.2.2.2.2
    generalize macF k (pdText p) = m at *
    have hp5 := hp4.stored 6 (.int .u64 (m : Nat))
    have hz5 := hz4.apart (p := ⟨w.heap.size + 1, 6, none⟩) (by show w.heap.size + 1 + 1 ≠ w.heap.size + 1; omega) (.int .u64 (m : Nat))
    have hB5 := hB4.setCell (p := ⟨w.heap.size + 1, 6, none⟩) (by show w.heap.size ≤ w.heap.size + 1; omega) (.int .u64 (m : Nat))
    have ho5 := ownsRow_setCell_below ho4 (a := ⟨w.heap.size + 1, 6, none⟩) (by show w.heap.size + 1 < wa.heap.size; have := HSA.out; omega) (.int .u64 (m : Nat))
    obtain ⟨w5, hw5⟩ : ∃ w5, w4.setCell ⟨w.heap.size + 1, 6, none⟩ (.int .u64 (m : Nat)) = w5 := ⟨_, rfl⟩
    rw [hw5] at hp5 hz5 hB5 ho5
    have HP5 : Hid (Has w5 (w.heap.size + 1) 30 #[.int .i64 p.kind, .int .i64 p.dir, .int .i64 p.train, .int .u32 (p.a : Nat), .int .u32 (p.b : Nat), .slice A1 p.body.length r1, .int .u64 (m : Nat)]) := Lib.hid hp5
    have HW5 := Lib.hid hw5
    clear hp4 hz4 hB4 ho4 hp5 hw5 hb24
    go_upto_region 4 with fail
    rw [HW5.out]
    clear HW5 c0 c1 c2 c3 c4 c5 c6 f6
    obtain ⟨c0, c1, c2, c3, c4, c5, c6⟩ := has_seven HP5.out
    have HE : Hid (w5.heap[w.heap.size + 1 + 1]? = some (.cells #[.int .i64 0, .int .i64 0, .int .i64 0, .int .u32 0, .int .u32 0, .slice none 0 0, .int .u64 0] 30 (0, 0))) := Lib.hid hz5
    have HR := Lib.hid (has_setRow7 HE.out #[.int .i64 p.kind, .int .i64 p.dir, .int .i64 p.train, .int .u32 (p.a : Nat), .int .u32 (p.b : Nat), .slice A1 p.body.length r1, .int .u64 (m : Nat)])
    have HBF := Lib.hid (below_row (g := w.heap.size + 1 + 1) hB5 (by omega) #[.int .i64 p.kind, .int .i64 p.dir, .int .i64 p.train, .int .u32 (p.a : Nat), .int .u32 (p.b : Nat), .slice A1 p.body.length r1, .int .u64 (m : Nat)])
    have HOF := Lib.hid (own_row9 (g := w.heap.size + 1 + 1) ho5 (by have := HSA.out; omega) #[.int .i64 p.kind, .int .i64 p.dir, .int .i64 p.train, .int .u32 (p.a : Nat), .int .u32 (p.b : Nat), .slice A1 p.body.length r1, .int .u64 (m : Nat)])
    clear hz5 hB5 ho5
    go_wp2_with (with_reducible refine wpList_store_rowTo (o := ⟨none, _, _, _, _, _⟩) rfl 30 _ _ rfl rfl (w.heap.size + 1 + 1) #[.int .i64 p.kind, .int .i64 p.dir, .int .i64 p.train, .int .u32 (p.a : Nat), .int .u32 (p.b : Nat), .slice A1 p.body.length r1, .int .u64 (m : Nat)] rfl rfl 30 _ HE.out (by kernel_rfl) (by kernel_rfl) (by kernel_rfl) ?_)
    refine bodyPost_ret (results_cell_row rfl _ _ (w.heap.size + 1 + 1) 30 _ _ _ rfl HR.out Try.underlying30 rfl (by kernel_rfl)) rfl ?_
    rw [HS.out]
    exact seal_end (q := { p with mac := m }) HOF.out HBA.out.size HBF.out HNL.out
  · have HS := Lib.hid hS
    have HM := Lib.hid (HMAY.out A1 r1 w2)
    obtain ⟨b, hb⟩ : ∃ b, decide (pdMay p) = b := ⟨_, rfl⟩
    rw [hb] at HM
    have hkb : b = true → p.kind = 1 := fun h => by
      rcases hm with h2 | h2
      · exact absurd (of_decide_eq_true (hb.trans h)) h2
      · exact h2
    clear hm hS HMAY hb HC
    rcases b with _ | _
    · clear hkb HH
      go_wp2_with fail
      rw [HW2.out]
      clear HW2 c0 c1 c2 c3 c4 c5 c6 f5
      obtain ⟨c0, c1, c2, c3, c4, c5, c6⟩ := has_seven HP2.out
      go_wp2_with fail
      refine HM.out.mono ?_
      rintro e w3 ⟨rfl, hb3⟩
      clear c0 c1 c2 c3 c4 c5 c6 HM
      obtain ⟨c0, c1, c2, c3, c4, c5, c6⟩ := has_seven (HP2.out.under hb3 HP2.out.lt)
      have hz3 := HZ2.out.under hb3 HZ2.out.lt
      have hB3 := HB2.out.trans (hb3.mono HB2.out.size)
      have ho3 := own_under HO2.out hb3 (Nat.le_refl _)
      clear hb3
      have HE : Hid (w3.heap[w.heap.size + 1 + 1]? = some (.cells #[.int .i64 0, .int .i64 0, .int .i64 0, .int .u32 0, .int .u32 0, .slice none 0 0, .int .u64 0] 30 (0, 0))) := Lib.hid hz3
      have HR := Lib.hid (has_setRow7 HE.out #[.int .i64 p.kind, .int .i64 p.dir, .int .i64 p.train, .int .u32 (p.a : Nat), .int .u32 (p.b : Nat), .slice A1 p.body.length r1, .int .u64 (p.mac : Nat)])
      have HBF := Lib.hid (below_row (g := w.heap.size + 1 + 1) hB3 (by omega) #[.int .i64 p.kind, .int .i64 p.dir, .int .i64 p.train, .int .u32 (p.a : Nat), .int .u32 (p.b : Nat), .slice A1 p.body.length r1, .int .u64 (p.mac : Nat)])
      have HOF := Lib.hid (own_row9 (g := w.heap.size + 1 + 1) ho3 (by have := HSA.out; omega) #[.int .i64 p.kind, .int .i64 p.dir, .int .i64 p.train, .int .u32 (p.a : Nat), .int .u32 (p.b : Nat), .slice A1 p.body.length r1, .int .u64 (p.mac : Nat)])
      clear hz3 hB3 ho3
      go_wp2_with (with_reducible refine wpList_store_rowTo (o := ⟨none, _, _, _, _, _⟩) rfl 30 _ _ rfl rfl (w.heap.size + 1 + 1) #[.int .i64 p.kind, .int .i64 p.dir, .int .i64 p.train, .int .u32 (p.a : Nat), .int .u32 (p.b : Nat), .slice A1 p.body.length r1, .int .u64 (p.mac : Nat)] rfl rfl 30 _ HE.out (by kernel_rfl) (by kernel_rfl) (by kernel_rfl) ?_)
      refine bodyPost_ret (results_cell_row rfl _ _ (w.heap.size + 1 + 1) 30 _ _ _ rfl HR.out Try.underlying30 rfl (by kernel_rfl)) rfl ?_
      rw [HS.out]
      exact seal_end (q := p) HOF.out HBA.out.size HBF.out HNL.out
    · rw [decide_eq_false (by simpa using hkb rfl)] at HH
      clear hkb
      go_wp2_with fail
      rw [HW2.out]
      clear HW2 c0 c1 c2 c3 c4 c5 c6 f5
      obtain ⟨c0, c1, c2, c3, c4, c5, c6⟩ := has_seven HP2.out
      go_wp2_with fail
      refine HM.out.mono ?_
      rintro e w3 ⟨rfl, hb3⟩
      clear c0 c1 c2 c3 c4 c5 c6 HM
      obtain ⟨c0, c1, c2, c3, c4, c5, c6⟩ := has_seven (HP2.out.under hb3 HP2.out.lt)
      have hz3 := HZ2.out.under hb3 HZ2.out.lt
      have hB3 := HB2.out.trans (hb3.mono HB2.out.size)
      have ho3 := own_under HO2.out hb3 (Nat.le_refl _)
      clear hb3
      go_wp2_with fail
      refine (HH.out _).mono ?_
      rintro e w3' ⟨rfl, rfl⟩
      have HE : Hid (w3'.heap[w.heap.size + 1 + 1]? = some (.cells #[.int .i64 0, .int .i64 0, .int .i64 0, .int .u32 0, .int .u32 0, .slice none 0 0, .int .u64 0] 30 (0, 0))) := Lib.hid hz3
      have HR := Lib.hid (has_setRow7 HE.out #[.int .i64 p.kind, .int .i64 p.dir, .int .i64 p.train, .int .u32 (p.a : Nat), .int .u32 (p.b : Nat), .slice A1 p.body.length r1, .int .u64 (p.mac : Nat)])
      have HBF := Lib.hid (below_row (g := w.heap.size + 1 + 1) hB3 (by omega) #[.int .i64 p.kind, .int .i64 p.dir, .int .i64 p.train, .int .u32 (p.a : Nat), .int .u32 (p.b : Nat), .slice A1 p.body.length r1, .int .u64 (p.mac : Nat)])
      have HOF := Lib.hid (own_row9 (g := w.heap.size + 1 + 1) ho3 (by have := HSA.out; omega) #[.int .i64 p.kind, .int .i64 p.dir, .int .i64 p.train, .int .u32 (p.a : Nat), .int .u32 (p.b : Nat), .slice A1 p.body.length r1, .int .u64 (p.mac : Nat)])
      clear hz3 hB3 ho3
      go_wp2_with (with_reducible refine wpList_store_rowTo (o := ⟨none, _, _, _, _, _⟩) rfl 30 _ _ rfl rfl (w.heap.size + 1 + 1) #[.int .i64 p.kind, .int .i64 p.dir, .int .i64 p.train, .int .u32 (p.a : Nat), .int .u32 (p.b : Nat), .slice A1 p.body.length r1, .int .u64 (p.mac : Nat)] rfl rfl 30 _ HE.out (by kernel_rfl) (by kernel_rfl) (by kernel_rfl) ?_)
      refine bodyPost_ret (results_cell_row rfl _ _ (w.heap.size + 1 + 1) 30 _ _ _ rfl HR.out Try.underlying30 rfl (by kernel_rfl)) rfl ?_
      rw [HS.out]
      exact seal_end (q := p) HOF.out HBA.out.size HBF.out HNL.out
end Go.Proofs.Ytekcnmimfhiblaa
