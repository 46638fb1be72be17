/-
  linesidelaw05.PacketItems, walked.
-/
import Derived.Test.YtccmickemglmaaaDoorLawPacketGets

import Derived.Deep.RegionHeld3

namespace Go.Proofs.YtccmickemglmaaaDoor

open Go.RowKit

open BitsM

set_option maxRecDepth 100000 in
set_option maxHeartbeats 4000000 in
theorem packetItems_walk (id : Int) (A : Option Addr) (n c : Nat) (V : List Int) (w : World) (h : SlI w.heap.size w A n c V) (hwd : Wd w) :
    Calls Tryd.prog 3 #[pkV id A n c] w fun e w' => e = .returned (.bool true) ∧ Below w.heap.size w w' := by
  obtain ⟨wa, hwa⟩ : ∃ wa, w.alloc (.cells #[.int .i64 id, .slice A n c] 24) = wa := ⟨_, rfl⟩
  have hba : Below w.heap.size w wa := by rw [← hwa]; exact (Below.refl _ _).alloc (Nat.le_refl _) _
  have hsz : w.heap.size < wa.heap.size := by rw [← hwa]; simp
  have hc0 : ∀ W, Below wa.heap.size wa W → W.cell? ⟨w.heap.size, 0, none⟩ = some (.int .i64 id) ∧ W.cell? ⟨w.heap.size, 1, none⟩ = some (.slice A n c) := fun W hW => by
    have hh : Has wa w.heap.size 24 #[.int .i64 id, .slice A n c] := by rw [← hwa]; exact Has.made _ _ _
    rw [hW.cell hsz, hW.cell hsz, hh.cell, hh.cell]
    exact ⟨rfl, rfl⟩
  have HA0 := Lib.hid (awake_any wa (hwd.under hba))
  have KC := Lib.hid hc0
  have HBA := Lib.hid hba
  have HD := Lib.hid (fun W (hW : Below wa.heap.size wa W) => (hwd.under hba).under hW); clear hwd
  by_cases hin : n ≤ 3000
  · have hV : ∀ W, Below wa.heap.size wa W → SlI W.heap.size W A n c V := fun W hW =>
      sli_under h (hba.trans (hW.mono (Nat.le_of_lt hsz))) (Nat.le_trans (Nat.le_of_lt hsz) hW.size)
    have C1 := Lib.hid (fun W hW => opk_items id A n c V W (hV W hW) (by omega) (HD.out W hW))
    have C2 := Lib.hid (fun W hW => items_any id A n c V W (hV W hW) (by omega))
    have up : ∀ (W W' : World), Below wa.heap.size wa W → Below W.heap.size W W' → Below wa.heap.size wa W' := fun W W' h1 h2 => h1.trans (h2.mono h1.size)
    have C3 := Lib.hid (fun W hW => (opk_size id A n c V W (hV W hW) (by omega) (HD.out W hW)).mono fun e w' h => And.intro h.1 (up W w' hW h.2))
    have C4 := Lib.hid (fun W hW => (size_any id A n c V W (hV W hW) (by omega)).mono fun e w' h => And.intro h.1 (up W w' hW h.2))
    have C5 := Lib.hid (fun W (hW : Below wa.heap.size wa W) => (opk_known id W).mono fun e w' h => And.intro h.1 (up W w' hW h.2))
    have C6 := Lib.hid (fun W (hW : Below wa.heap.size wa W) => (known_any id W).mono fun e w' h => And.intro h.1 (show Below wa.heap.size wa w' from h.2 ▸ hW))
    have C7 := Lib.hid (fun W (hW : Below wa.heap.size wa W) => (opk_up id W).mono fun e w' h => And.intro h.1 (up W w' hW h.2))
    have C8 := Lib.hid (fun W (hW : Below wa.heap.size wa W) => (up_any id W).mono fun e w' h => And.intro h.1 (show Below wa.heap.size wa w' from h.2 ▸ hW))
    have hln := items_len id V (by rw [h.len]; omega)
    have x1 : ¬ (3000 : Int) < (n : Int) := by omega
    generalize itemsF id V = T at *
    generalize totalOf T.1 = t at *
    generalize knownB id = kb at *
    generalize upB id = ub at *
    clear hV h
    unfold pkV at *
    go_enter Tryd.func3, Tryd.ntmps3
    go_wp2_with fail
    skip
    clear hwa
    refine HA0.out.mono ?_
    rintro e w1 ⟨rfl, hb1⟩
    obtain ⟨k0, k1⟩ := hc0 w1 hb1
    have HC1 := Lib.hid (C1.out w1 hb1)
    have HB1 := Lib.hid hb1
    clear hb1 HA0 C1
    go_wp2_with fail
    refine HC1.out.mono ?_
    rintro e w2 ⟨A2, m2, c2, rfl, hs2, hb2⟩
    have hb2' := up w1 w2 HB1.out hb2
    obtain ⟨k20, k21⟩ := hc0 w2 hb2'
    have HC2 := Lib.hid (C2.out w2 hb2')
    have HS2 := Lib.hid hs2
    have HB2 := Lib.hid hb2'
    clear hs2 hb2 hb2' k0 k1 C2
    go_wp2_with fail
    refine HC2.out.mono ?_
    rintro e w3 ⟨A3, m3, c3, rfl, hs3, hb3⟩
    have hb3' := up w2 w3 HB2.out hb3
    have HL := Lib.hid (lists_any A2 A3 m2 c2 m3 c3 T.1 T.1 w3 (HS2.out.under hb3) hs3 (by have := HS2.out.len; omega) (by have := hs3.len; omega))
    rw [decide_eq_true rfl] at HL
    have HB3 := Lib.hid hb3'
    clear hs3 hb3 hb3' k20 k21 HC1 HC2
    go_wp2_with fail
    refine HL.out.mono ?_
    rintro e w4 ⟨rfl, q, hq⟩
    have hb4 : Below wa.heap.size wa w4 := by rw [hq]; exact below_draws HB3.out q
    clear hq HL HS2 HB2 HB1 HB3
    obtain ⟨k40, k41⟩ := hc0 w4 hb4
    have hb4d : Below wa.heap.size wa w4.drew := below_draws hb4 1
    go_wp2_with fail
    go_region_held3 (fun w' => w'.cell? ⟨w.heap.size, 0, none⟩ = some (.int .i64 id) ∧ w'.cell? ⟨w.heap.size, 1, none⟩ = some (.slice A n c)) (first | exact KC.out _ (by assumption) | go_keep) (first
      | (go_at_call 13; refine (C3.out _ (by assumption)).mono ?_; rintro e w5 ⟨rfl, hb5⟩)
      | (go_at_call 14; refine (C4.out _ (by assumption)).mono ?_; rintro e w6 ⟨rfl, hb6⟩)
      | (go_at_call 15; refine (C5.out _ (by assumption)).mono ?_; rintro e w7 ⟨rfl, hb7⟩)
      | (go_at_call 16; refine (C6.out _ (by assumption)).mono ?_; rintro e w8 ⟨rfl, hb8⟩)
      | (go_at_call 17; refine (C7.out _ (by assumption)).mono ?_; rintro e w9 ⟨rfl, hb9⟩)
      | (go_at_call 18; refine (C8.out _ (by assumption)).mono ?_; rintro e w10 ⟨rfl, hb10⟩))
    have HB10 := Lib.hid (HBA.out.trans (hb10.mono HBA.out.size))
    clear hb4 hb4d hb5 hb6 hb7 hb8 hb9 hb10 k40 k41 hc0
    go_wp2
    go_ret
    exact ⟨by simp, HB10.out⟩
  · have x1 : (3000 : Int) < (n : Int) := by omega
    clear h
    unfold pkV
    go_enter Tryd.func3, Tryd.ntmps3
    go_wp2_with fail
    skip
    clear hwa
    refine HA0.out.mono ?_
    rintro e w1 ⟨rfl, hb1⟩
    obtain ⟨k0, k1⟩ := hc0 w1 hb1
    have HB1 := Lib.hid (HBA.out.trans (hb1.mono HBA.out.size))
    clear hb1 HA0 hc0
    go_wp2
    go_ret
    exact ⟨rfl, HB1.out⟩
end Go.Proofs.YtccmickemglmaaaDoor
