/-
  linesidelaw08: awake.
-/
import Derived.Test.YtnclfaphpgcplaaMcOwn
import Derived.Test.YtnclfaphpgcplaaCi
import Derived.Deep.RegionHeld3
namespace Go.Proofs.Ytnclfaphpgcplaa
open Go.RowKit

theorem at8_one (W : World) : At8 (W.alloc (.cells #[.int .u8 7] 5)) (some ⟨W.heap.size, 0, none⟩) [7] := by
  intro _
  refine ⟨_, rfl, fun j v hv => ?_⟩
  rw [WideShapes.add_plain, (Has.made W _ _).cell, Nat.zero_add]
  simpa [u8s] using hv

set_option maxRecDepth 100000 in
set_option maxHeartbeats 4000000 in
theorem awake8_any (w : World) : Calls Try.prog 8 #[] w fun e w' => e = .returned (.bool true) ∧ Below w.heap.size w w' := by
  have hko : (⟨1, 2, 3, 4⟩ : Key4).ok := ⟨by decide, by decide, by decide, by decide⟩
  have h0 : ∀ W : World, At8 W none [] := fun _ h => absurd h (by simp)
  have hM0 := fun W => omc_mac ⟨1, 2, 3, 4⟩ hko none 0 [] W (h0 W) (fun x hx => by cases hx) (by decide)
  have hM7 := fun W => omc_mac ⟨1, 2, 3, 4⟩ hko (some ⟨W.heap.size, 0, none⟩) 1 [7] (W.alloc (.cells #[.int .u8 7] 5)) (at8_one W) (fun x hx => by simp at hx; omega) (by decide)
  rw [mac_nil] at hM0
  rw [mac_seven] at hM7
  have hlt1 := encF7_lt hko (b := 1) (by decide)
  have hE0 := fun W => ocp_encrypt ⟨1, 2, 3, 4⟩ hko 0 (by decide) W
  have hE1 := fun W => ocp_encrypt ⟨1, 2, 3, 4⟩ hko 1 (by decide) W
  have hE2 := fun W => ocp_encrypt ⟨1, 2, 3, 4⟩ hko (encF7 ⟨1, 2, 3, 4⟩ 1 ^^^ 0x0700000000000000) (xor64 hlt1 (by decide)) W
  have hne := mac_none
  have hxx := xor64i (rfl : encF7 ⟨1, 2, 3, 4⟩ 1 ^^^ 0x0700000000000000 = encF7 ⟨1, 2, 3, 4⟩ 1 ^^^ 0x0700000000000000) hlt1 (by decide)
  generalize encF7 ⟨1, 2, 3, 4⟩ (encF7 ⟨1, 2, 3, 4⟩ 1 ^^^ 0x0700000000000000) = m7 at *
  generalize encF7 ⟨1, 2, 3, 4⟩ 1 ^^^ 0x0700000000000000 = x1 at *
  generalize encF7 ⟨1, 2, 3, 4⟩ 1 = e1 at *
  generalize encF7 ⟨1, 2, 3, 4⟩ 0 = e0 at *
  simp only [keyV, keyA, Int.cast_ofNat_Int, List.length_nil, List.length_cons, Nat.zero_add] at hM0 hM7 hE0 hE1 hE2 hxx
  obtain ⟨wa, hwa⟩ : ∃ wa, w.alloc (.cells #[.int .u32 1, .int .u32 2, .int .u32 3, .int .u32 4] 24) = wa := ⟨_, rfl⟩
  have hba : Below w.heap.size w wa := by rw [← hwa]; exact (Below.refl _ _).alloc (Nat.le_refl _) _
  have hka : Has wa w.heap.size 24 #[.int .u32 1, .int .u32 2, .int .u32 3, .int .u32 4] := by rw [← hwa]; exact Has.made _ _ _
  have HBA := Lib.hid hba; have HWA := Lib.hid hwa
  have KC := Lib.hid (fun W (hW : Below wa.heap.size wa W) => And.intro ((hka.under hW hka.lt).cell 0) (And.intro ((hka.under hW hka.lt).cell 1) (And.intro ((hka.under hW hka.lt).cell 2) ((hka.under hW hka.lt).cell 3))))
  have M0 := Lib.hid (fun W (hW : Below wa.heap.size wa W) => (hM0 W).mono fun e w' h => And.intro h.1 (hW.trans (h.2.mono hW.size)))
  have M7 := Lib.hid (fun W (hW : Below wa.heap.size wa W) => (hM7 W).mono fun e w' h => And.intro h.1 ((hW.alloc hW.size _).trans (h.2.mono (hW.alloc hW.size (.cells #[.int .u8 7] 5)).size)))
  have E0 := Lib.hid (fun W (hW : Below wa.heap.size wa W) => (hE0 W).mono fun e w' h => And.intro h.1 (hW.trans (h.2.mono hW.size)))
  have E1 := Lib.hid (fun W (hW : Below wa.heap.size wa W) => (hE1 W).mono fun e w' h => And.intro h.1 (hW.trans (h.2.mono hW.size)))
  have E2 := Lib.hid (fun W (hW : Below wa.heap.size wa W) => (hE2 W).mono fun e w' h => And.intro h.1 (hW.trans (h.2.mono hW.size)))
  have y0 : ((e0 : Int) == (e0 : Int)) = true := by simp
  have y1 : ((m7 : Int) == (m7 : Int)) = true := by simp
  have y2 : ((e0 : Int) != 0) = true := by simp; omega
  have hbd : Below wa.heap.size wa wa.drew := below_draws (Below.refl _ _) 1
  clear hba hwa hka hM0 hM7 hE0 hE1 hE2 hne hlt1 hko h0
  go_enter Try.func8, Try.ntmps8
  go_wp2_with fail
  rw [HWA.out]
  clear HWA
  go_region_held3 (fun W => W.cell? ⟨w.heap.size, 0, none⟩ = some (.int .u32 1) ∧ W.cell? ⟨w.heap.size, 1, none⟩ = some (.int .u32 2) ∧ W.cell? ⟨w.heap.size, 2, none⟩ = some (.int .u32 3) ∧ W.cell? ⟨w.heap.size, 3, none⟩ = some (.int .u32 4)) (first | exact KC.out _ (by assumption) | go_keep) (first
    | (go_at_call 9; with_reducible refine (M0.out _ (by assumption)).mono ?_; rintro e v0 ⟨rfl, hc0⟩)
    | (go_at_call 9; with_reducible refine (M7.out _ (by assumption)).mono ?_; rintro e v7 ⟨rfl, hc7⟩)
    | (go_at_call 14; with_reducible refine (E0.out _ (by assumption)).mono ?_; rintro e v1 ⟨rfl, hc1⟩)
    | (go_at_call 14; with_reducible refine (E1.out _ (by assumption)).mono ?_; rintro e v2 ⟨rfl, hc2⟩)
    | (go_at_call 14; with_reducible refine (E2.out _ (by assumption)).mono ?_; rintro e v3 ⟨rfl, hc3⟩))
  all_goals go_wp2
  all_goals go_ret
  all_goals exact ⟨rfl, HBA.out.trans ((by assumption : Below wa.heap.size wa _).mono HBA.out.size)⟩
end Go.Proofs.Ytnclfaphpgcplaa
