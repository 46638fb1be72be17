/-
  linesidelaw05.PacketCut, walked.
-/
import Derived.Test.YtccmickemglmaaaDoorLawPacketItems

namespace Go.Proofs.YtccmickemglmaaaDoor

open Go.RowKit

open BitsM

theorem bits_take (xs : List Nat) (k : Nat) (hk : k ≤ xs.length) : bitsOf (xs.take k) = (bitsOf xs).take (8 * k) := by
  apply List.ext_getElem
  · rw [bitsOf_length, List.length_take, List.length_take, bitsOf_length]; omega
  intro p h1 h2
  rw [bitsOf_length, List.length_take] at h1
  have e1 : (bitsOf (xs.take k))[p]'(by rw [bitsOf_length, List.length_take]; exact h1) = bitAt (xs.take k) p := by simp [bitsOf, bitsFrom]
  rw [e1, List.getElem_take]
  have e2 : (bitsOf xs)[p]'(by rw [bitsOf_length]; omega) = bitAt xs p := by simp [bitsOf, bitsFrom]
  rw [e2, bitAt, bitAt]
  congr 1
  rw [List.getD_eq_getElem?_getD, List.getD_eq_getElem?_getD, List.getElem?_take, if_pos (by omega)]
theorem bytes_take (bs : List Bool) (k : Nat) (hk : 8 * k ≤ bs.length) : bitsOf ((bytesOf bs).take k) = bs.take (8 * k) := by
  rw [bits_take _ _ (by rw [bytesOf_length]; omega), bits_bytes, List.take_append_of_le_length hk]
theorem at8_sl {w : World} {A : Option Addr} {n c : Nat} {xs : List Nat} (h : Sl w 1 A n c (u8s xs)) (hn : xs.length = n) : At8 w A xs := by
  intro h0
  cases A with
  | none => have := (h.2.1 rfl).1; omega
  | some ad => exact ⟨ad, rfl, fun j v hv => h.2.2 ad rfl j v hv⟩

theorem items_len2 (id : Int) (V : List Int) : (itemsF id V).1.length ≤ V.length + 2 := by
  by_cases h : (itemsF id V).2 = 0
  · have h2 : itemsF id V = ((itemsF id V).1, 0) := by rw [← h]
    obtain ⟨_, D1, D2, _, hV2, hO, _⟩ := items_ok h2
    rw [hO]
    have := congrArg List.length hV2
    rw [List.length_map, List.length_append] at this
    simp only [List.length_append, List.length_cons, List.length_nil]; omega
  · rw [items_err h]; simp

set_option maxRecDepth 100000 in
set_option maxHeartbeats 4000000 in
theorem packetCut_walk (id : Int) (A : Option Addr) (n c : Nat) (V : List Int) (cut : Int) (w : World) (h : SlI w.heap.size w A n c V) (_hw : (Lit.int .i64 cut).wf = true) (hwd : Wd w) :
    Calls Tryd.prog 7 #[pkV id A n c, .int .i64 cut] w fun e w' => e = .returned (.bool true) ∧ Below w.heap.size w w' := by
  obtain ⟨wa, hwa⟩ : ∃ wa, w.alloc (.cells #[.int .i64 id, .slice A n c] 24) = wa := ⟨_, rfl⟩
  have hba : Below w.heap.size w wa := by rw [← hwa]; exact (Below.refl _ _).alloc (Nat.le_refl _) _
  have hsz : w.heap.size < wa.heap.size := by rw [← hwa]; simp
  have hc0 : ∀ W, Below wa.heap.size wa W → W.cell? ⟨w.heap.size, 0, none⟩ = some (.int .i64 id) ∧ W.cell? ⟨w.heap.size, 1, none⟩ = some (.slice A n c) := fun W hW => by
    have hh : Has wa w.heap.size 24 #[.int .i64 id, .slice A n c] := by rw [← hwa]; exact Has.made _ _ _
    rw [hW.cell hsz, hW.cell hsz, hh.cell, hh.cell]
    exact ⟨rfl, rfl⟩
  have HA0 := Lib.hid (awake_any wa (hwd.under hba))
  have HBA := Lib.hid hba
  have HD := Lib.hid (fun W (hW : Below wa.heap.size wa W) => (hwd.under hba).under hW); have HWD := Lib.hid hwd; clear hwd
  by_cases hin : n ≤ 3000
  · have hV : ∀ W, Below wa.heap.size wa W → SlI W.heap.size W A n c V := fun W hW =>
      sli_under h (hba.trans (hW.mono (Nat.le_of_lt hsz))) (Nat.le_trans (Nat.le_of_lt hsz) hW.size)
    have C1 := Lib.hid (fun W hW => opk_items id A n c V W (hV W hW) (by omega) (HD.out W hW))
    have up : ∀ (W W' : World), Below wa.heap.size wa W → Below W.heap.size W W' → Below wa.heap.size wa W' := fun W W' h1 h2 => h1.trans (h2.mono h1.size)
    have C3 := Lib.hid (fun W hW => (opk_size id A n c V W (hV W hW) (by omega) (HD.out W hW)).mono fun e w' h => And.intro h.1 (And.intro (up W w' hW h.2) h.2))
    have hln := items_len2 id V
    rw [h.len] at hln
    have hfit := items_fit id V
    have x1 : ¬ (3000 : Int) < (n : Int) := by omega
    have hcutF : ∀ O, itemsF id V = (O, 0) → ∀ j, j < (laidOf O).length → getF ((laidOf O).take j) 0 = ((0, []), 0, 10) := fun O h j hj => get_cut h j hj
    have htot : (itemsF id V).2 = 0 → ((laidOf (itemsF id V).1).length : Int) = totalOf (itemsF id V).1 ∧ totalOf (itemsF id V).1 ≤ 8184 := fun h0 => by
      have h2 : itemsF id V = ((itemsF id V).1, 0) := by rw [← h0]
      obtain ⟨_, _, _, _, _, _, ht⟩ := items_ok h2
      exact ⟨laid_total (fun x hx => (hfit x hx).2.2.1), ht⟩
    generalize itemsF id V = T at *
    have HF := Lib.hid hfit; have HC := Lib.hid hcutF; have HT := Lib.hid htot
    clear hV h hfit hcutF htot
    unfold pkV at *
    go_enter Tryd.func7, Tryd.ntmps7
    go_wp2_with fail
    clear hwa
    refine HA0.out.mono ?_
    rintro e w1 ⟨rfl, hb1⟩
    obtain ⟨k0, k1⟩ := hc0 w1 hb1
    have HC1 := Lib.hid (C1.out w1 hb1)
    have HB1 := Lib.hid hb1
    clear hb1 HA0 C1
    go_wp2_with fail
    refine HC1.out.mono ?_
    rintro e w2 ⟨A2, m2, c2, rfl, hs2, hb2⟩
    have hb2' := up w1 w2 HB1.out hb2
    obtain ⟨k20, k21⟩ := hc0 w2 hb2'
    have HC3 := Lib.hid (C3.out w2 hb2')
    have HS2 := Lib.hid hs2
    have HB2 := Lib.hid hb2'
    have HBW2 := Lib.hid (HBA.out.trans (hb2'.mono HBA.out.size))
    clear hs2 hb2 hb2' k0 k1 HC1 HB1
    by_cases he : T.2 = 0
    · have x2 : (T.2 != 0) = false := by simp [he]
      obtain ⟨hlt, ht8⟩ := HT.out he
      by_cases hneg : cut < 0
      · go_wp2
        go_ret
        exact ⟨rfl, HBW2.out⟩
      · obtain ⟨k, hk⟩ : ∃ k : Nat, cut = k := ⟨cut.toNat, by omega⟩
        subst hk
        obtain ⟨L, hL⟩ : ∃ L, (laidOf T.1).length = L := ⟨_, rfl⟩
        rw [hL] at hlt
        rw [← hlt] at HC3
        have hq : Int.tdiv (L : Int) 8 = ((L / 8 : Nat) : Int) := by rw [Int.tdiv_eq_ediv_of_nonneg (by omega)]; omega
        have hL8 : L ≤ 8184 := by omega
        by_cases hkl : k < L / 8
        · have x3 : ¬ ((L / 8 : Nat) : Int) ≤ (k : Int) := by omega
          have x4 : ¬ (k : Int) < 0 := by omega
          go_wp2_with fail
          refine HC3.out.mono ?_
          rintro e w4 ⟨rfl, hb4, hb24⟩
          have hs4 := HS2.out.under hb24
          have HBW4 := Lib.hid (HBA.out.trans (hb4.mono HBA.out.size))
          have hm2 := hs4.len
          have HBY := Lib.hid (lbytes_own A2 m2 c2 T.1 w4 hs4 (by omega) HF.out (by omega))
          clear hb4 hb24 hs4 HC3 HB2
          go_wp2_with fail
          refine HBY.out.mono ?_
          rintro e w5 ⟨A5, c5, base, rfl, ho5, hb5⟩
          have HBW5 := Lib.hid (HBW4.out.trans (hb5.mono HBW4.out.size))
          have hbl := bytesOf_length (laidOf T.1)
          rw [hL] at hbl
          have hcc : (bytesOf (laidOf T.1)).length ≤ c5 := by
            rcases ho5.2 with ⟨e1, e2⟩ | ⟨_, cap, _, e1, _, _, h3, _⟩
            · omega
            · injection e1 with _ _ e3
              omega
          have hct := fun w : World => cut_to (P := Tryd.prog) 34 5 Tryd.underlying34 (by kernel_rfl) (by kernel_rfl) A5 (bytesOf (laidOf T.1)).length c5 k (by omega) w
          have hsl5 := (Sl.of_own ho5).to_ (p := k) (by omega)
          have htk : (u8s (bytesOf (laidOf T.1))).take k = u8s ((bytesOf (laidOf T.1)).take k) := by simp [u8s, List.map_take]
          rw [htk] at hsl5
          generalize (if c5 = 0 then A5 else A5.map (·.add (0 * 1))) = A6 at *
          have hlk : ((bytesOf (laidOf T.1)).take k).length = k := by rw [List.length_take]; omega
          have hg := opk_get A6 c5 ((bytesOf (laidOf T.1)).take k) 0 w5 (at8_sl hsl5 hlk) (fun x hx => bytesOf_lt _ x (List.mem_of_mem_take hx)) (by omega) (by omega) (by decide) (by decide) (HWD.out.under HBW5.out)
          rw [hlk, bytes_take _ _ (by omega), HC.out T.1 (by rw [← he]) (8 * k) (by omega)] at hg
          have HG := Lib.hid hg
          clear hg hsl5 htk ho5 hb5 hcc hlk HBY HBW4 hbl
          go_wp2_with fail
          refine HG.out.mono ?_
          rintro e w6 ⟨A7, n7, c7, rfl, hs7, hb7⟩
          have hn7 : n7 = 0 := hs7.len.symm
          subst hn7
          have HBW7 := Lib.hid ((HBW5.out.trans (hb7.mono HBW5.out.size)).alloc (HBW5.out.trans (hb7.mono HBW5.out.size)).size (.cells #[.int .i64 0, .slice A7 0 c7] 24))
          clear hs7 hb7 HG HBW5
          unfold pkV
          go_wp2
          go_ret
          exact ⟨rfl, HBW7.out⟩
        · have x3 : ((L / 8 : Nat) : Int) ≤ (k : Int) := by omega
          have x4 : ¬ (k : Int) < 0 := by omega
          go_wp2_with fail
          refine HC3.out.mono ?_
          rintro e w4 ⟨rfl, hb4, _⟩
          have HBW4 := Lib.hid (HBA.out.trans (hb4.mono HBA.out.size))
          clear hb4
          go_wp2
          go_ret
          exact ⟨rfl, HBW4.out⟩
    · have x2 : (T.2 != 0) = true := by simp [he]
      go_wp2
      go_ret
      exact ⟨rfl, HBW2.out⟩
  · have x1 : (3000 : Int) < (n : Int) := by omega
    clear h
    unfold pkV
    go_enter Tryd.func7, Tryd.ntmps7
    go_wp2_with fail
    clear hwa
    refine HA0.out.mono ?_
    rintro e w1 ⟨rfl, hb1⟩
    obtain ⟨k0, k1⟩ := hc0 w1 hb1
    have HB1 := Lib.hid (HBA.out.trans (hb1.mono HBA.out.size))
    clear hb1 HA0 hc0
    go_wp2
    go_ret
    exact ⟨rfl, HB1.out⟩
end Go.Proofs.YtccmickemglmaaaDoor
