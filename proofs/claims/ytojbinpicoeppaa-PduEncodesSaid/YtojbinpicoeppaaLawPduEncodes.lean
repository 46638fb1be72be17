/-
  linesidelaw09.PduEncodes, walked.
-/
import Derived.Test.YtojbinpicoeppaaLawAwake09
import Derived.Test.YtojbinpicoeppaaKitR
namespace Go.Proofs.Ytojbinpicoeppaa
open Go.RowKit
open Go.Great

/-- What a call that answers bytes says, seen from an elder world too. -/
def TextPost2 (l : List Nat) (b w : World) (e : Ending) (w' : World) : Prop :=
  ∃ A' c', e = .returned (.slice A' l.length c') ∧ Hid (At8 w' A' l) ∧ Hid (Below w.heap.size w w') ∧ Below b.heap.size b w'
theorem TextPost.two {l : List Nat} {b w : World} {e : Ending} {w' : World} (h : TextPost l w e w') (hb : Below b.heap.size b w) : TextPost2 l b w e w' := by
  obtain ⟨A', c', h1, h2, h3⟩ := h
  exact ⟨A', c', h1, Lib.hid (at8_own h2.out), h3, hb.trans (h3.out.mono hb.size)⟩

set_option maxRecDepth 100000 in
set_option maxHeartbeats 4000000 in
theorem pduEncodes_walk (p : Pdu) (A : Option Addr) (c : Nat) (w : World) (hk : p.ok) (_hm : p.body.length ≤ maxLen) (_hc : p.body.length ≤ c) (hs : Sl w 1 A p.body.length c (u8s p.body)) :
    Calls Try.prog 3 #[pdV p A c] w fun e w' => e = .returned (.bool true) ∧ Below w.heap.size w w' := by
  obtain ⟨wa, hwa, hba, hsa, hkc⟩ := pd_box p A c w
  have hsl := fun W (hW : Below w.heap.size w W) => Sl.under hs hW
  have HA := Lib.hid (awake9_any wa)
  have HWA := Lib.hid hwa; have HBA := Lib.hid hba; have HKC := Lib.hid hkc; have HSL := Lib.hid hsl; have HK := Lib.hid hk
  obtain ⟨k0, k1, k2, k3, k4, k5, k6⟩ := hkc wa (Below.refl _ _)
  obtain ⟨code, hcode⟩ : ∃ code : Int, (if pdMay p then (0 : Int) else 1) = code := ⟨_, rfl⟩
  have HCD0 := Lib.hid hcode
  clear hcode
  unfold maxLen at _hm
  clear hwa hba hsa hkc hsl hs hk
  unfold pdV pdA at *
  go_enter Try.func3, Try.ntmps3
  go_wp2_with fail
  rw [HWA.out]
  clear HWA
  refine HA.out.mono ?_
  rintro e w1 ⟨rfl, hb1⟩
  clear HA k0 k1 k2 k3 k4 k5 k6
  obtain ⟨k0, k1, k2, k3, k4, k5, k6⟩ := HKC.out w1 hb1
  have HB1 := Lib.hid hb1
  clear hb1
  by_cases hin : p.body.length ≤ 2000
  · have x1 : ¬ (2000 : Int) < (p.body.length : Int) := by omega
    have HE1 := Lib.hid (opd_encode p A c HK.out hin w1 (HSL.out w1 (HBA.out.trans (HB1.out.mono HBA.out.size))))
    unfold pdV pdA EncPost at HE1
    rw [HCD0.out] at HE1
    go_wp2_with fail
    refine HE1.out.mono ?_
    rintro e w2 ⟨A2, c2, rfl, ho2, hb2⟩
    clear HE1 k0 k1 k2 k3 k4 k5 k6
    have HB2 := Lib.hid (HB1.out.trans (hb2.out.mono HB1.out.size))
    obtain ⟨k0, k1, k2, k3, k4, k5, k6⟩ := HKC.out w2 HB2.out
    have HE2 := Lib.hid (ref_encode p A c HK.out hin w2 (HSL.out w2 (HBA.out.trans (HB2.out.mono HBA.out.size))))
    unfold pdV pdA at HE2
    rw [HCD0.out] at HE2
    go_wp2_with fail
    refine HE2.out.mono ?_
    rintro e w3 ⟨A3, c3, rfl, ho3, hb3⟩
    clear HE2 k0 k1 k2 k3 k4 k5 k6
    have HB3 := Lib.hid (HB2.out.trans (hb3.out.mono HB2.out.size))
    have HKC3 := Lib.hid (fun W (hW : Below w3.heap.size w3 W) => HKC.out W (HB3.out.trans (hW.mono HB3.out.size)))
    have hS2 := fun W (hW : Below w3.heap.size w3 W) => conv8 A2 c2 (pdEnc p) W (at8_low8 (at8_low8 (at8_own ho2.out) hb3.out) hW)
    have hS3 := fun W (hW : Below w3.heap.size w3 W) => conv8 A3 c3 (pdEnc p) W (at8_low8 (at8_own ho3.out) hW)
    have HS2 := Lib.hid hS2; have HS3 := Lib.hid hS3
    have hup := fun W (hW : Below w3.heap.size w3 W) => (HBA.out.trans (HB3.out.mono HBA.out.size)).trans (hW.mono (by have := HBA.out.size; have := HB3.out.size; omega))
    have HT1 := Lib.hid (fun W (hW : Below w3.heap.size w3 W) => (opd_text p A c HK.out hin W (HSL.out W (hup W hW))).mono fun e w' h => h.two hW)
    have HT2 := Lib.hid (fun W (hW : Below w3.heap.size w3 W) => (ref_text p A c HK.out hin W (HSL.out W (hup W hW))).mono fun e w' h => TextPost.two h hW)
    have HM1 := Lib.hid (fun W (hW : Below w3.heap.size w3 W) => (opd_may p A c HK.out hin W).mono fun e w' h => And.intro h.1 (And.intro h.2 (hW.trans (h.2.mono hW.size))))
    have HM2 := Lib.hid (fun W (hW : Below w3.heap.size w3 W) => (ref_may p A c HK.out (by omega) W).mono fun e w' h => And.intro h.1 (And.intro h.2 (hW.trans (h.2.mono hW.size))))
    unfold pdV pdA TextPost2 at *
    have hbd : Below w3.heap.size w3 w3.drew := below_dr (Below.refl _ _)
    clear ho2 hb2 ho3 hb3 hS2 hS3 hup HB2 HB1
    generalize (pdEnc p).length = L2 at *
    generalize str8 (pdEnc p) = S2 at *
    generalize decide (pdMay p) = md at *
    obtain ⟨TX, hTX⟩ : ∃ TX, pdText p = TX := ⟨_, rfl⟩
    rw [hTX] at HT1 HT2
    clear hTX
    have hse : (S2.toList == S2.toList) = true := by simp
    go_upto_region 6 with fail
    refine wp_region_held_drew (S := (fun W => (W.cell? ⟨w.heap.size, 0, none⟩ = some (.int .i64 p.kind) ∧ W.cell? ⟨w.heap.size, 1, none⟩ = some (.int .i64 p.dir) ∧ W.cell? ⟨w.heap.size, 2, none⟩ = some (.int .i64 p.train) ∧ W.cell? ⟨w.heap.size, 3, none⟩ = some (.int .u32 (p.a : Nat)) ∧ W.cell? ⟨w.heap.size, 4, none⟩ = some (.int .u32 (p.b : Nat)) ∧ W.cell? ⟨w.heap.size, 5, none⟩ = some (.slice A p.body.length c) ∧ W.cell? ⟨w.heap.size, 6, none⟩ = some (.int .u64 (p.mac : Nat))) ∧ (convert 23 9 (.slice A2 L2 c2)).run Try.prog W = .ok (.string S2) W ∧ (convert 23 9 (.slice A3 L2 c3)).run Try.prog W = .ok (.string S2) W)) (by kernel_rfl) ?_ (fun hHeld => ?_)
    · exact ⟨HKC3.out _ hbd, HS2.out _ hbd, HS3.out _ hbd⟩
    refine wpAnyH_take (i := 0) (oi := ⟨some 28, _, _, _, _, _⟩) (v := ?_) rfl (by kernel_rfl) (by kernel_rfl) (by kernel_rfl) (fun _ _ _ h => h) (Or.inl ⟨by rfl, ?_⟩) (by assumption) ?_
    rotate_left
    · intro w_ hSw; (try dsimp only at hSw); go_simp <;> with_reducible rfl
    simp only [Act.put, List.setIfInBounds_toArray, List.set_cons_zero, List.set_cons_succ]
    refine wpAnyH_take (i := 1) (oi := ⟨some 29, _, _, _, _, _⟩) (v := ?_) rfl (by kernel_rfl) (by kernel_rfl) (by kernel_rfl) (fun _ _ _ h => h) (Or.inl ⟨by rfl, ?_⟩) (by assumption) ?_
    rotate_left
    · intro w_ hSw; (try dsimp only at hSw); go_simp <;> with_reducible rfl
    simp only [Act.put, List.setIfInBounds_toArray, List.set_cons_zero, List.set_cons_succ]
    refine wpAnyH_take (i := 2) (oi := ⟨some 30, _, _, _, _, _⟩) (v := ?_) rfl (by kernel_rfl) (by kernel_rfl) (by kernel_rfl) (fun _ _ _ h => h) (Or.inl ⟨by rfl, ?_⟩) (by assumption) ?_
    rotate_left
    · intro w_ hSw; (try dsimp only at hSw); go_simp <;> with_reducible rfl
    simp only [Act.put, List.setIfInBounds_toArray, List.set_cons_zero, List.set_cons_succ]
    refine wpAnyH_take (i := 3) (oi := ⟨some 31, _, _, _, _, _⟩) (v := ?_) rfl (by kernel_rfl) (by kernel_rfl) (by kernel_rfl) (fun _ _ _ h => h) (Or.inl ⟨by rfl, ?_⟩) (by assumption) ?_
    rotate_left
    · intro w_ hSw; (try dsimp only at hSw); go_simp <;> with_reducible rfl
    simp only [Act.put, List.setIfInBounds_toArray, List.set_cons_zero, List.set_cons_succ]
    refine wpAnyH_take (i := 4) (oi := ⟨some 32, _, _, _, _, _⟩) (v := ?_) rfl (by kernel_rfl) (by kernel_rfl) (by kernel_rfl) (fun _ _ _ h => h) (Or.inl ⟨by rfl, ?_⟩) (by assumption) ?_
    rotate_left
    · intro w_ hSw; (try dsimp only at hSw); go_simp <;> with_reducible rfl
    simp only [Act.put, List.setIfInBounds_toArray, List.set_cons_zero, List.set_cons_succ]
    refine wpAnyH_take (i := 5) (oi := ⟨some 33, _, _, _, _, _⟩) (v := ?_) rfl (by kernel_rfl) (by kernel_rfl) (by kernel_rfl) (fun _ _ _ h => h) (Or.inl ⟨by rfl, ?_⟩) (by assumption) ?_
    rotate_left
    · intro w_ hSw; (try dsimp only at hSw); go_simp <;> with_reducible rfl
    simp only [Act.put, List.setIfInBounds_toArray, List.set_cons_zero, List.set_cons_succ]
    refine wpAnyH_take (i := 6) (oi := ⟨some 34, _, _, _, _, _⟩) (v := ?_) rfl (by kernel_rfl) (by kernel_rfl) (by kernel_rfl) (fun _ _ _ h => h) (Or.inl ⟨by rfl, ?_⟩) (by assumption) ?_
    rotate_left
    · intro w_ hSw; (try dsimp only at hSw); go_simp <;> with_reducible rfl
    simp only [Act.put, List.setIfInBounds_toArray, List.set_cons_zero, List.set_cons_succ]
    refine wpAnyH_take (i := 7) (oi := ⟨some 35, _, _, _, _, _⟩) (v := ?_) rfl (by kernel_rfl) (by kernel_rfl) (by kernel_rfl) (fun _ _ _ h => h) (Or.inl ⟨by rfl, ?_⟩) (by assumption) ?_
    rotate_left
    · intro w_ hSw; (try dsimp only at hSw); go_simp <;> with_reducible rfl
    simp only [Act.put, List.setIfInBounds_toArray, List.set_cons_zero, List.set_cons_succ]
    refine wpAnyH_take (i := 8) (oi := ⟨some 36, _, _, _, _, _⟩) (v := ?_) rfl (by kernel_rfl) (by kernel_rfl) (by kernel_rfl) (fun _ _ _ h => h) (Or.inl ⟨by rfl, ?_⟩) (by assumption) ?_
    rotate_left
    · intro w_ hSw; (try dsimp only at hSw); go_simp <;> with_reducible rfl
    simp only [Act.put, List.setIfInBounds_toArray, List.set_cons_zero, List.set_cons_succ]
    refine wpAnyH_take (i := 9) (oi := ⟨some 37, _, _, _, _, _⟩) (v := ?_) rfl (by kernel_rfl) (by kernel_rfl) (by kernel_rfl) (fun _ _ _ h => h) (Or.inl ⟨by rfl, ?_⟩) (by assumption) ?_
    rotate_left
    · intro w_ hSw; (try dsimp only at hSw); go_simp <;> with_reducible rfl
    simp only [Act.put, List.setIfInBounds_toArray, List.set_cons_zero, List.set_cons_succ]
    refine wpAnyH_take (i := 10) (oi := ⟨some 38, _, _, _, _, _⟩) (v := ?_) rfl (by kernel_rfl) (by kernel_rfl) (by kernel_rfl) (fun _ _ _ h => h) (Or.inl ⟨by rfl, ?_⟩) (by assumption) ?_
    rotate_left
    · intro w_ hSw; (try dsimp only at hSw); go_simp <;> with_reducible rfl
    simp only [Act.put, List.setIfInBounds_toArray, List.set_cons_zero, List.set_cons_succ]
    refine wpAnyH_take (i := 11) (oi := ⟨some 39, _, _, _, _, _⟩) (v := ?_) rfl (by kernel_rfl) (by kernel_rfl) (by kernel_rfl) (fun _ _ _ h => h) (Or.inl ⟨by rfl, ?_⟩) (by assumption) ?_
    rotate_left
    · intro w_ hSw; (try dsimp only at hSw); go_simp <;> with_reducible rfl
    simp only [Act.put, List.setIfInBounds_toArray, List.set_cons_zero, List.set_cons_succ]
    refine wpAnyH_take (i := 14) (oi := ⟨some 42, _, _, _, _, _⟩) (v := ?_) rfl (by kernel_rfl) (by kernel_rfl) (by kernel_rfl) (fun _ _ _ h => h) (Or.inl ⟨by rfl, ?_⟩) (by assumption) ?_
    rotate_left
    · intro w_ hSw; (try dsimp only at hSw); go_simp <;> with_reducible rfl
    simp only [Act.put, List.setIfInBounds_toArray, List.set_cons_zero, List.set_cons_succ]
    refine wpAnyH_ready (rs := [12]) (by kernel_rfl) (by simp) ?_
    refine AllReadyH.cons (o := ⟨some 40, _, _, _, _, _⟩) rfl (fun K hK => ?_) ?_
    · go_simp
      refine (HT1.out _ hbd).mono ?_
      rintro e v4 ⟨A4, c4, rfl, ha4, hl4, hb4⟩
      go_wp2_with fail
      refine hK.out _ _ ?_ (fun hHeld => ?_)
      · exact ⟨HKC3.out _ hb4, HS2.out _ hb4, HS3.out _ hb4⟩
      clear hK K
      try simp only [Act.put, List.setIfInBounds_toArray, List.set_cons_zero, List.set_cons_succ]
      refine wpAnyH_more (T := (fun W => ((W.cell? ⟨w.heap.size, 0, none⟩ = some (.int .i64 p.kind) ∧ W.cell? ⟨w.heap.size, 1, none⟩ = some (.int .i64 p.dir) ∧ W.cell? ⟨w.heap.size, 2, none⟩ = some (.int .i64 p.train) ∧ W.cell? ⟨w.heap.size, 3, none⟩ = some (.int .u32 (p.a : Nat)) ∧ W.cell? ⟨w.heap.size, 4, none⟩ = some (.int .u32 (p.b : Nat)) ∧ W.cell? ⟨w.heap.size, 5, none⟩ = some (.slice A p.body.length c) ∧ W.cell? ⟨w.heap.size, 6, none⟩ = some (.int .u64 (p.mac : Nat))) ∧ (convert 23 9 (.slice A2 L2 c2)).run Try.prog W = .ok (.string S2) W ∧ (convert 23 9 (.slice A3 L2 c3)).run Try.prog W = .ok (.string S2) W) ∧ Below v4.heap.size v4 W)) (fun _ h => h.1) ?_
      have hHeld2 : (fun W => ((W.cell? ⟨w.heap.size, 0, none⟩ = some (.int .i64 p.kind) ∧ W.cell? ⟨w.heap.size, 1, none⟩ = some (.int .i64 p.dir) ∧ W.cell? ⟨w.heap.size, 2, none⟩ = some (.int .i64 p.train) ∧ W.cell? ⟨w.heap.size, 3, none⟩ = some (.int .u32 (p.a : Nat)) ∧ W.cell? ⟨w.heap.size, 4, none⟩ = some (.int .u32 (p.b : Nat)) ∧ W.cell? ⟨w.heap.size, 5, none⟩ = some (.slice A p.body.length c) ∧ W.cell? ⟨w.heap.size, 6, none⟩ = some (.int .u64 (p.mac : Nat))) ∧ (convert 23 9 (.slice A2 L2 c2)).run Try.prog W = .ok (.string S2) W ∧ (convert 23 9 (.slice A3 L2 c3)).run Try.prog W = .ok (.string S2) W) ∧ Below v4.heap.size v4 W) _ := ⟨hHeld, Below.refl _ _⟩
      clear hHeld
      have hHeld := hHeld2
      clear hHeld2
      refine wpAnyH_take (i := 13) (oi := ⟨some 41, _, _, _, _, _⟩) (v := ?_) rfl (by kernel_rfl) (by kernel_rfl) (by kernel_rfl) (fun _ _ _ h => h) (Or.inl ⟨by rfl, ?_⟩) (by assumption) ?_
      rotate_left
      · intro w_ hSw; (try dsimp only at hSw); have hx := conv8 A4 c4 TX w_ (at8_low8 ha4.out hSw.2); go_simp <;> with_reducible rfl
      simp only [Act.put, List.setIfInBounds_toArray, List.set_cons_zero, List.set_cons_succ]
      refine wpAnyH_ready (rs := [15]) (by kernel_rfl) (by simp) ?_
      refine AllReadyH.cons (o := ⟨some 43, _, _, _, _, _⟩) rfl (fun K hK => ?_) ?_
      · go_simp
        refine (HT2.out _ hb4).mono ?_
        rintro e v5 ⟨A5, c5, rfl, ha5, hl5, hb5⟩
        go_wp2_with fail
        refine hK.out _ _ ?_ (fun hHeld => ?_)
        · exact ⟨⟨HKC3.out _ hb5, HS2.out _ hb5, HS3.out _ hb5⟩, hl5.out⟩
        clear hK K
        try simp only [Act.put, List.setIfInBounds_toArray, List.set_cons_zero, List.set_cons_succ]
        refine wpAnyH_more (T := (fun W => ((W.cell? ⟨w.heap.size, 0, none⟩ = some (.int .i64 p.kind) ∧ W.cell? ⟨w.heap.size, 1, none⟩ = some (.int .i64 p.dir) ∧ W.cell? ⟨w.heap.size, 2, none⟩ = some (.int .i64 p.train) ∧ W.cell? ⟨w.heap.size, 3, none⟩ = some (.int .u32 (p.a : Nat)) ∧ W.cell? ⟨w.heap.size, 4, none⟩ = some (.int .u32 (p.b : Nat)) ∧ W.cell? ⟨w.heap.size, 5, none⟩ = some (.slice A p.body.length c) ∧ W.cell? ⟨w.heap.size, 6, none⟩ = some (.int .u64 (p.mac : Nat))) ∧ (convert 23 9 (.slice A2 L2 c2)).run Try.prog W = .ok (.string S2) W ∧ (convert 23 9 (.slice A3 L2 c3)).run Try.prog W = .ok (.string S2) W) ∧ Below v5.heap.size v5 W)) (fun _ h => ⟨h.1, hl5.out.trans (h.2.mono hl5.out.size)⟩) ?_
        have hHeld2 : (fun W => ((W.cell? ⟨w.heap.size, 0, none⟩ = some (.int .i64 p.kind) ∧ W.cell? ⟨w.heap.size, 1, none⟩ = some (.int .i64 p.dir) ∧ W.cell? ⟨w.heap.size, 2, none⟩ = some (.int .i64 p.train) ∧ W.cell? ⟨w.heap.size, 3, none⟩ = some (.int .u32 (p.a : Nat)) ∧ W.cell? ⟨w.heap.size, 4, none⟩ = some (.int .u32 (p.b : Nat)) ∧ W.cell? ⟨w.heap.size, 5, none⟩ = some (.slice A p.body.length c) ∧ W.cell? ⟨w.heap.size, 6, none⟩ = some (.int .u64 (p.mac : Nat))) ∧ (convert 23 9 (.slice A2 L2 c2)).run Try.prog W = .ok (.string S2) W ∧ (convert 23 9 (.slice A3 L2 c3)).run Try.prog W = .ok (.string S2) W) ∧ Below v5.heap.size v5 W) _ := ⟨hHeld.1, Below.refl _ _⟩
        clear hHeld
        have hHeld := hHeld2
        clear hHeld2
        refine wpAnyH_take (i := 16) (oi := ⟨some 44, _, _, _, _, _⟩) (v := ?_) rfl (by kernel_rfl) (by kernel_rfl) (by kernel_rfl) (fun _ _ _ h => h) (Or.inl ⟨by rfl, ?_⟩) (by assumption) ?_
        rotate_left
        · intro w_ hSw; (try dsimp only at hSw); have hx := conv8 A5 c5 TX w_ (at8_low8 ha5.out hSw.2); go_simp <;> with_reducible rfl
        simp only [Act.put, List.setIfInBounds_toArray, List.set_cons_zero, List.set_cons_succ]
        refine wpAnyH_take (i := 17) (oi := ⟨some 45, _, _, _, _, _⟩) (v := ?_) rfl (by kernel_rfl) (by kernel_rfl) (by kernel_rfl) (fun _ _ _ h => h) (Or.inl ⟨by rfl, ?_⟩) (by assumption) ?_
        rotate_left
        · intro w_ hSw; (try dsimp only at hSw); go_simp <;> with_reducible rfl
        simp only [Act.put, List.setIfInBounds_toArray, List.set_cons_zero, List.set_cons_succ]
        refine wpAnyH_take (i := 18) (oi := ⟨some 46, _, _, _, _, _⟩) (v := ?_) rfl (by kernel_rfl) (by kernel_rfl) (by kernel_rfl) (fun _ _ _ h => h) (Or.inl ⟨by rfl, ?_⟩) (by assumption) ?_
        rotate_left
        · intro w_ hSw; (try dsimp only at hSw); go_simp <;> with_reducible rfl
        simp only [Act.put, List.setIfInBounds_toArray, List.set_cons_zero, List.set_cons_succ]
        refine wpAnyH_take (i := 19) (oi := ⟨some 47, _, _, _, _, _⟩) (v := ?_) rfl (by kernel_rfl) (by kernel_rfl) (by kernel_rfl) (fun _ _ _ h => h) (Or.inl ⟨by rfl, ?_⟩) (by assumption) ?_
        rotate_left
        · intro w_ hSw; (try dsimp only at hSw); go_simp <;> with_reducible rfl
        simp only [Act.put, List.setIfInBounds_toArray, List.set_cons_zero, List.set_cons_succ]
        refine wpAnyH_take (i := 20) (oi := ⟨some 48, _, _, _, _, _⟩) (v := ?_) rfl (by kernel_rfl) (by kernel_rfl) (by kernel_rfl) (fun _ _ _ h => h) (Or.inl ⟨by rfl, ?_⟩) (by assumption) ?_
        rotate_left
        · intro w_ hSw; (try dsimp only at hSw); go_simp <;> with_reducible rfl
        simp only [Act.put, List.setIfInBounds_toArray, List.set_cons_zero, List.set_cons_succ]
        refine wpAnyH_take (i := 22) (oi := ⟨some 50, _, _, _, _, _⟩) (v := ?_) rfl (by kernel_rfl) (by kernel_rfl) (by kernel_rfl) (fun _ _ _ h => h) (Or.inl ⟨by rfl, ?_⟩) (by assumption) ?_
        rotate_left
        · intro w_ hSw; (try dsimp only at hSw); go_simp <;> with_reducible rfl
        simp only [Act.put, List.setIfInBounds_toArray, List.set_cons_zero, List.set_cons_succ]
        refine wpAnyH_ready (rs := [21]) (by kernel_rfl) (by simp) ?_
        refine AllReadyH.cons (o := ⟨some 49, _, _, _, _, _⟩) rfl (fun K hK => ?_) ?_
        · go_simp
          refine (HM1.out _ hb5).mono ?_
          rintro e v6 ⟨rfl, hl6, hb6⟩
          go_wp2_with fail
          refine hK.out _ _ ?_ (fun hHeld => ?_)
          · exact ⟨⟨HKC3.out _ hb6, HS2.out _ hb6, HS3.out _ hb6⟩, hl6⟩
          clear hK K
          try simp only [Act.put, List.setIfInBounds_toArray, List.set_cons_zero, List.set_cons_succ]
          refine wpAnyH_ready (rs := [23]) (by kernel_rfl) (by simp) ?_
          refine AllReadyH.cons (o := ⟨some 51, _, _, _, _, _⟩) rfl (fun K hK => ?_) ?_
          · go_simp
            refine (HM2.out _ hb6).mono ?_
            rintro e v7 ⟨rfl, hl7, hb7⟩
            go_wp2_with fail
            refine hK.out _ _ ?_ (fun hHeld => ?_)
            · exact ⟨⟨HKC3.out _ hb7, HS2.out _ hb7, HS3.out _ hb7⟩, hl6.trans (hl7.mono hl6.size)⟩
            clear hK K
            try simp only [Act.put, List.setIfInBounds_toArray, List.set_cons_zero, List.set_cons_succ]
            refine wpAnyH_take (i := 24) (oi := ⟨some 52, _, _, _, _, _⟩) (v := ?_) rfl (by kernel_rfl) (by kernel_rfl) (by kernel_rfl) (fun _ _ _ h => h) (Or.inl ⟨by rfl, ?_⟩) (by assumption) ?_
            rotate_left
            · intro w_ hSw; (try dsimp only at hSw); go_simp <;> with_reducible rfl
            simp only [Act.put, List.setIfInBounds_toArray, List.set_cons_zero, List.set_cons_succ]
            refine wpAnyH_take (i := 25) (oi := ⟨some 53, _, _, _, _, _⟩) (v := ?_) rfl (by kernel_rfl) (by kernel_rfl) (by kernel_rfl) (fun _ _ _ h => h) (Or.inl ⟨by rfl, ?_⟩) (by assumption) ?_
            rotate_left
            · intro w_ hSw; (try dsimp only at hSw); go_simp <;> with_reducible rfl
            simp only [Act.put, List.setIfInBounds_toArray, List.set_cons_zero, List.set_cons_succ]
            refine wpAnyH_take (i := 26) (oi := ⟨some 2, _, _, _, _, _⟩) (v := ?_) rfl (by kernel_rfl) (by kernel_rfl) (by kernel_rfl) (fun _ _ _ h => h) (Or.inl ⟨by rfl, ?_⟩) (by assumption) ?_
            rotate_left
            · intro w_ hSw; (try dsimp only at hSw); go_simp <;> with_reducible rfl
            simp only [Act.put, List.setIfInBounds_toArray, List.set_cons_zero, List.set_cons_succ]
            refine wpAnyH_done (by kernel_rfl) ?_ _
            have HBF := Lib.hid ((HBA.out.trans (HB3.out.mono HBA.out.size)).trans (hb7.mono (HBA.out.trans (HB3.out.mono HBA.out.size)).size))
            go_wp2
            go_ret
            exact ⟨by simp, HBF.out⟩
          exact AllReadyH.nil
        exact AllReadyH.nil
      exact AllReadyH.nil
    exact AllReadyH.nil
  · have x1 : (2000 : Int) < (p.body.length : Int) := by omega
    have HBF := Lib.hid (HBA.out.trans (HB1.out.mono HBA.out.size))
    clear HB1 HKC HSL HK
    go_wp2
    go_ret
    exact ⟨rfl, HBF.out⟩
end Go.Proofs.Ytojbinpicoeppaa
