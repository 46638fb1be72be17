/-
  linesideref07.Encrypt, Decrypt, by contract.
-/
import Derived.Test.YtekcnmimfhiblaaCiRounds
namespace Go.Proofs.Ytekcnmimfhiblaa
open Go.RowKit
open Go.Great

theorem or64 {x y : Nat} (hx : x < 4294967296) (hy : y < 4294967296) : bits .or .u64 (((x : Nat) : Int) * 4294967296) ((y : Nat) : Int) = ((x * 4294967296 + y : Nat) : Int) := by
  have p : (2 : Nat) ^ 32 = 4294967296 := by decide
  have h := or_parts (a := x) (b := y) (k := 32) (by rw [p]; exact hy)
  rw [p, Nat.mul_comm] at h
  have h2 := u64_or_nat (x * 4294967296) y (by omega) (by omega)
  rw [h] at h2
  simp only [Int.natCast_mul, Int.cast_ofNat_Int] at h2
  exact h2

set_option maxRecDepth 100000 in
set_option maxHeartbeats 4000000 in
theorem ref_encrypt (k : Key4) (hk : k.ok) (b : Nat) (hb : b < 18446744073709551616) (w : World) :
    Calls Try.prog 57 #[keyV k, .int .u64 (b : Nat)] w fun e w' => e = .returned (.int .u64 (encF7 k b : Nat)) ∧ Below w.heap.size w w' := by
  have HR := Lib.hid (fun W => ref_rounds k hk W)
  obtain ⟨wa, hwa⟩ : ∃ wa, w.alloc (.cells #[.int .u32 (k.a : Nat), .int .u32 (k.b : Nat), .int .u32 (k.c : Nat), .int .u32 (k.d : Nat)] 24) = wa := ⟨_, rfl⟩
  have hba : Below w.heap.size w wa := by rw [← hwa]; exact (Below.refl _ _).alloc (Nat.le_refl _) _
  have hsa : wa.heap.size = w.heap.size + 1 := by rw [← hwa]; simp
  have hka : Has wa w.heap.size 24 (keyA k) := by rw [← hwa]; exact Has.made _ _ _
  have HBA := Lib.hid hba; have HWA := Lib.hid hwa
  have c0 : wa.cell? ⟨w.heap.size, 0, none⟩ = some (.int .u32 (k.a : Nat)) := hka.cell 0
  have c1 : wa.cell? ⟨w.heap.size, 1, none⟩ = some (.int .u32 (k.b : Nat)) := hka.cell 1
  have c2 : wa.cell? ⟨w.heap.size, 2, none⟩ = some (.int .u32 (k.c : Nat)) := hka.cell 2
  have c3 : wa.cell? ⟨w.heap.size, 3, none⟩ = some (.int .u32 (k.d : Nat)) := hka.cell 3
  have HKO := Lib.hid hk
  have hp := ofB_ok hb
  have HB := Lib.hid hb
  unfold keyV keyA at HR ⊢
  clear hba hka hwa hk
  go_enter Try.func57, Try.ntmps57
  go_wp2_with fail
  rw [HWA.out]
  refine (HR.out _).mono ?_
  rintro e w2 ⟨rfl, hb2⟩
  have hbz := hb2.alloc hb2.size (.cells #[.int .u32 0, .int .u32 0, .int .u32 0, .int .u32 0, .int .u32 0, .int .u32 0, .int .u32 0, .int .u32 0, .int .u32 0, .int .u32 0, .int .u32 0, .int .u32 0, .int .u32 0, .int .u32 0, .int .u32 0, .int .u32 0, .int .u32 0, .int .u32 0, .int .u32 0, .int .u32 0, .int .u32 0, .int .u32 0, .int .u32 0, .int .u32 0, .int .u32 0, .int .u32 0, .int .u32 0] 88)
  have hz2 := Has.made w2 88 #[.int .u32 0, .int .u32 0, .int .u32 0, .int .u32 0, .int .u32 0, .int .u32 0, .int .u32 0, .int .u32 0, .int .u32 0, .int .u32 0, .int .u32 0, .int .u32 0, .int .u32 0, .int .u32 0, .int .u32 0, .int .u32 0, .int .u32 0, .int .u32 0, .int .u32 0, .int .u32 0, .int .u32 0, .int .u32 0, .int .u32 0, .int .u32 0, .int .u32 0, .int .u32 0, .int .u32 0]
  obtain ⟨g, hg⟩ : ∃ g, w2.heap.size = g := ⟨_, rfl⟩
  have HE : Hid ((w2.alloc (.cells #[.int .u32 0, .int .u32 0, .int .u32 0, .int .u32 0, .int .u32 0, .int .u32 0, .int .u32 0, .int .u32 0, .int .u32 0, .int .u32 0, .int .u32 0, .int .u32 0, .int .u32 0, .int .u32 0, .int .u32 0, .int .u32 0, .int .u32 0, .int .u32 0, .int .u32 0, .int .u32 0, .int .u32 0, .int .u32 0, .int .u32 0, .int .u32 0, .int .u32 0, .int .u32 0, .int .u32 0] 88)).heap[w2.heap.size]? = some (.cells #[.int .u32 0, .int .u32 0, .int .u32 0, .int .u32 0, .int .u32 0, .int .u32 0, .int .u32 0, .int .u32 0, .int .u32 0, .int .u32 0, .int .u32 0, .int .u32 0, .int .u32 0, .int .u32 0, .int .u32 0, .int .u32 0, .int .u32 0, .int .u32 0, .int .u32 0, .int .u32 0, .int .u32 0, .int .u32 0, .int .u32 0, .int .u32 0, .int .u32 0, .int .u32 0, .int .u32 0] 88 (0, 0))) := Lib.hid hz2
  have hm3 := has_setRow7 hz2 (roundA k)
  have hb3 := below_row (g := w2.heap.size) hbz hb2.size (roundA k)
  have hsz3 : w2.heap.size < ((w2.alloc (.cells #[.int .u32 0, .int .u32 0, .int .u32 0, .int .u32 0, .int .u32 0, .int .u32 0, .int .u32 0, .int .u32 0, .int .u32 0, .int .u32 0, .int .u32 0, .int .u32 0, .int .u32 0, .int .u32 0, .int .u32 0, .int .u32 0, .int .u32 0, .int .u32 0, .int .u32 0, .int .u32 0, .int .u32 0, .int .u32 0, .int .u32 0, .int .u32 0, .int .u32 0, .int .u32 0, .int .u32 0] 88)).setRow w2.heap.size (roundA k)).heap.size := by simp
  obtain ⟨w3, hw3⟩ : ∃ w3, (w2.alloc (.cells #[.int .u32 0, .int .u32 0, .int .u32 0, .int .u32 0, .int .u32 0, .int .u32 0, .int .u32 0, .int .u32 0, .int .u32 0, .int .u32 0, .int .u32 0, .int .u32 0, .int .u32 0, .int .u32 0, .int .u32 0, .int .u32 0, .int .u32 0, .int .u32 0, .int .u32 0, .int .u32 0, .int .u32 0, .int .u32 0, .int .u32 0, .int .u32 0, .int .u32 0, .int .u32 0, .int .u32 0] 88)).setRow w2.heap.size (roundA k) = w3 := ⟨_, rfl⟩
  rw [hw3] at hm3 hb3 hsz3
  have HM3 := Lib.hid hm3; have HB3 := Lib.hid (HBA.out.trans (hb3.mono HBA.out.size)); have HW3 := Lib.hid hw3
  have HIN : Hid ((Try.prog.info? 88).map (·.size) = some (roundA k).size) := Lib.hid (by rw [round_size]; kernel_rfl)
  have HON : Hid ((roundA k).all (·.oneCell') = true) := Lib.hid (by simp [roundA, wordsA, Value.oneCell'])
  have HOS : Hid ((#[.int .u32 0, .int .u32 0, .int .u32 0, .int .u32 0, .int .u32 0, .int .u32 0, .int .u32 0, .int .u32 0, .int .u32 0, .int .u32 0, .int .u32 0, .int .u32 0, .int .u32 0, .int .u32 0, .int .u32 0, .int .u32 0, .int .u32 0, .int .u32 0, .int .u32 0, .int .u32 0, .int .u32 0, .int .u32 0, .int .u32 0, .int .u32 0, .int .u32 0, .int .u32 0, .int .u32 0] : Array Value).size = (roundA k).size) := Lib.hid (by rw [round_size]; rfl)
  have hat : ∀ i, i < 27 → (roundA k)[i]? = some (.int .u32 (keyAt k i : Nat)) := fun i hi => by
    unfold roundA
    rw [wordsA_at, rounds_at k hi]
    rfl
  have HAT := Lib.hid hat
  obtain ⟨RA, hRA⟩ : ∃ RA, roundA k = RA := ⟨_, rfl⟩
  rw [hRA] at HM3 HIN HON HOS HAT HW3 ⊢
  clear hRA hbz hz2 hm3 hb3 hw3 hat hg hb2 HR HWA c0 c1 c2 c3
  go_wp2_with (with_reducible refine wpList_store_rowTo (o := ⟨none, _, _, _, _, _⟩) rfl 88 _ _ rfl rfl w2.heap.size RA rfl rfl 88 _ HE.out HIN.out HOS.out HON.out ?_)
  rw [HW3.out]
  clear HE HIN HON HOS HW3
  go_loopw [5, 6, 8] (fun s5 s6 s8 wr => ∃ (i x y : Nat), s5 = .int .u32 (x : Nat) ∧ s6 = .int .u32 (y : Nat) ∧ s8 = .int .i64 (i : Nat) ∧ i ≤ 27 ∧ encL ((roundsF k).take i) (ofB b) = (x, y) ∧ x < 4294967296 ∧ y < 4294967296 ∧ Below w3.heap.size w3 wr) (fun _ _ s8 _ => 27 - (intOf s8).toNat)
  case atStart => exact ⟨0, b / 4294967296, b % 4294967296, by go_num, by go_num, rfl, by omega, encL_nil _, hp.1, hp.2, Below.refl _ _⟩
  case round =>
    obtain ⟨i, x, y, rfl, rfl, rfl, hi, hen, hx, hy, hbw⟩ := hrel
    have HEN := Lib.hid hen; have HBW := Lib.hid hbw
    clear hen hbw
    by_cases hlt : i < 27
    · have f0 : ∀ W, Below w3.heap.size w3 W → W.cell? ⟨w2.heap.size, i, none⟩ = some (.int .u32 (keyAt k i : Nat)) := fun W hW => by
        rw [(HM3.out.under hW hsz3).cell]; exact HAT.out i hlt
      have F0 := Lib.hid f0
      have hr := keyAt_lt HKO.out (i := i) (by omega)
      have hst := encL_take (roundsF k) (ofB b) i _ (rounds_at k hlt)
      rw [HEN.out] at hst
      have HR8 := Lib.hid (fun W => right8_any x hx W)
      have HL3 := Lib.hid (fun W => left3_any y hy W)
      have hx8 := rr8_lt hx
      have hy3 := rl3_lt hy
      unfold encR at hst
      simp only at hst
      obtain ⟨u, hu⟩ : ∃ u, (rr8 x + y) % 4294967296 ^^^ keyAt k i = u := ⟨_, rfl⟩
      obtain ⟨v, hv⟩ : ∃ v, rl3 y ^^^ u = v := ⟨_, rfl⟩
      rw [hu, hv] at hst
      have hu2 : u < 4294967296 := by rw [← hu]; exact xor32 (by omega) hr
      have hv2 : v < 4294967296 := by rw [← hv]; exact xor32 hy3 hu2
      have hxu := xor32i hu (by omega) hr
      have hxv := xor32i hv hy3 hu2
      generalize rr8 x = r8 at *
      generalize rl3 y = l3 at *
      generalize keyAt k i = r at *
      have hxu2 : bits .xor .u32 ((((r8 : Nat) : Int) + ((y : Nat) : Int)) % 4294967296) ((r : Nat) : Int) = (u : Nat) := by
        simp only [Int.natCast_emod, Int.natCast_add, Int.cast_ofNat_Int] at hxu
        exact hxu
      have HST := Lib.hid hst
      have x0 : (0 : Int) ≤ i := by omega
      have x1 : (i : Int) < 27 := by omega
      clear hst hxu hu hv f0 HEN
      go_wp2_with fail
      refine (HR8.out _).mono ?_
      rintro e w5 ⟨rfl, hb5⟩
      have hb35 := HBW.out.trans (hb5.mono HBW.out.size)
      have f5 := F0.out w5 hb35
      have HB5 := Lib.hid hb35
      clear hb5 hb35 HR8 HBW
      go_wp2_with fail
      refine (HL3.out _).mono ?_
      rintro e w6 ⟨rfl, hb6⟩
      have HB6 := Lib.hid (HB5.out.trans (hb6.mono HB5.out.size))
      clear hb6 f5 HB5 HL3
      go_wp2
      go_roundw
      case rel => exact ⟨i + 1, u, v, rfl, rfl, by go_num, by omega, HST.out, hu2, hv2, HB6.out⟩
      case measure => simp [intOf]; omega
    obtain rfl : i = 27 := by omega
    have hen := HEN.out
    rw [List.take_of_length_le (by rw [rounds_len]; exact Nat.le_refl _)] at hen
    have hF : encF7 k b = x * 4294967296 + y := by unfold encF7; rw [hen, toB]
    have HF := Lib.hid hF
    have HBe := Lib.hid (HB3.out.trans (HBW.out.mono (by have := HB3.out.size; omega)))
    have ho : bits .or .u64 (((x : Nat) : Int) * 4294967296) ((y : Nat) : Int) = ((x * 4294967296 + y : Nat) : Int) := or64 hx hy
    have hs : ((x : Int) * 4294967296) % 18446744073709551616 = (x : Int) * 4294967296 := by omega
    clear hen hF HEN HBW HM3 HAT HB3
    go_wp2
    go_ret
    exact ⟨by rw [HF.out]; rfl, HBe.out⟩
end Go.Proofs.Ytekcnmimfhiblaa
