/-
  linesidelaw07: awake; opening a key.
-/
import Derived.Test.YthdhcafnfomepaaCi
import Derived.Test.YthdhcafnfomepaaCiKey
import Derived.Test.YthdhcafnfomepaaCiRef
namespace Go.Proofs.Ythdhcafnfomepaa
open Go.RowKit

set_option maxRecDepth 100000 in
set_option maxHeartbeats 2000000 in
theorem awake7_any (w : World) : Calls Try.prog 8 #[] w fun e w' => e = .returned (.bool true) ∧ Below w.heap.size w w' := by
  have hko : (⟨0x1b1a1918, 0x13121110, 0x0b0a0908, 0x03020100⟩ : Key4).ok := ⟨by decide, by decide, by decide, by decide⟩
  have hE := fun W => ocp_encrypt ⟨0x1b1a1918, 0x13121110, 0x0b0a0908, 0x03020100⟩ hko 0x3b7265747475432d (by decide) W
  have hD := fun W => ocp_decrypt ⟨0x1b1a1918, 0x13121110, 0x0b0a0908, 0x03020100⟩ hko 0x8c6fa548454e028b (by decide) W
  rw [speck_example] at hE
  rw [speck_back] at hD
  simp only [keyV, keyA, Int.cast_ofNat_Int] at hE hD
  have HE := Lib.hid hE; have HD := Lib.hid hD
  have hba : Below w.heap.size w (w.alloc (.cells #[.int .u32 454695192, .int .u32 319951120, .int .u32 185207048, .int .u32 50462976] 24)) := (Below.refl _ _).alloc (Nat.le_refl _) _
  have hka := Has.made w 24 #[.int .u32 454695192, .int .u32 319951120, .int .u32 185207048, .int .u32 50462976]
  obtain ⟨wa, hwa⟩ : ∃ wa, w.alloc (.cells #[.int .u32 454695192, .int .u32 319951120, .int .u32 185207048, .int .u32 50462976] 24) = wa := ⟨_, rfl⟩
  rw [hwa] at hba hka
  have HBA := Lib.hid hba; have HKA := Lib.hid hka; have HWA := Lib.hid hwa
  clear hko hE hD hba hka hwa
  go_enter Try.func8, Try.ntmps8
  go_wp2_with fail
  rw [HWA.out]
  clear HWA
  refine (HE.out _).mono ?_
  rintro e w1 ⟨rfl, hb1⟩
  have HB1 := Lib.hid (HBA.out.trans (hb1.mono HBA.out.size))
  have hk1 := HKA.out.under hb1 HKA.out.lt
  have c0 : w1.cell? ⟨w.heap.size, 0, none⟩ = some (.int .u32 454695192) := hk1.cell 0
  have c1 : w1.cell? ⟨w.heap.size, 1, none⟩ = some (.int .u32 319951120) := hk1.cell 1
  have c2 : w1.cell? ⟨w.heap.size, 2, none⟩ = some (.int .u32 185207048) := hk1.cell 2
  have c3 : w1.cell? ⟨w.heap.size, 3, none⟩ = some (.int .u32 50462976) := hk1.cell 3
  clear hb1 hk1 HE HKA HBA
  go_wp2_with fail
  refine (HD.out _).mono ?_
  rintro e w2 ⟨rfl, hb2⟩
  have HB2 := Lib.hid (HB1.out.trans (hb2.mono HB1.out.size))
  clear hb2 HD HB1 c0 c1 c2 c3
  go_wp2
  go_ret
  exact ⟨rfl, HB2.out⟩

end Go.Proofs.Ythdhcafnfomepaa
