/-
  linesideref08.Mac, Derive, by contract.
-/
import Derived.Test.YtekcnmimfhiblaaMcBlocks
import Derived.Test.YtekcnmimfhiblaaCiRef
import Derived.Deep.RegionHeld3
namespace Go.Proofs.Ytekcnmimfhiblaa
open Go.RowKit
open Go.Great

theorem xor64i {p q r : Nat} (h : p ^^^ q = r) (hp : p < 18446744073709551616) (hq : q < 18446744073709551616) : bits .xor .u64 (p : Int) (q : Int) = (r : Nat) := by
  rw [u64_xor_nat p q hp hq, h]

set_option maxRecDepth 100000 in
set_option maxHeartbeats 4000000 in
theorem ref_mac (k : Key4) (hk : k.ok) (A : Option Addr) (c : Nat) (xs : List Nat) (w : World) (ha : At8 w A xs) (hb : bytes8 xs) (hn : xs.length ≤ 100000) :
    Calls Try.prog 53 #[keyV k, .slice A xs.length c] w fun e w' => e = .returned (.int .u64 (macF k xs : Nat)) ∧ Below w.heap.size w w' := by
  obtain ⟨wa, hwa, hba, hsa, hkc⟩ := key_box k w
  have HBA := Lib.hid hba; have HWA := Lib.hid hwa; have HKC := Lib.hid hkc
  have HB := Lib.hid (ref_blocks A c xs wa (at8_low8 ha hba) hb hn)
  have HE := Lib.hid (fun m hm W => ref_encrypt k hk m hm W)
  obtain ⟨L, hL⟩ : ∃ L, blocksF xs = L := ⟨_, rfl⟩
  have hlen : L.length = nblk xs.length + 1 := by rw [← hL]; simp [blocksF, chunks]
  have hl64 : lt64 L := by rw [← hL]; exact blocks_lt hb (by omega)
  have hmac : macF k xs = foldE k L 0 := by unfold macF; rw [hL]
  rw [hL] at HB
  rw [hmac]
  have HFL := Lib.hid (fun (i : Nat) => foldE_lt hk (L.take i) 0 (fun x hx => hl64 x (List.mem_of_mem_take hx)) (by decide))
  have HLT := Lib.hid hl64
  have HKO := Lib.hid hk
  obtain ⟨q, hq⟩ : ∃ q, nblk xs.length + 1 = q := ⟨_, rfl⟩
  rw [hq] at HB hlen
  have HLN := Lib.hid hlen
  have hq2 : q ≤ 20000 := by rw [← hq]; unfold nblk; omega
  unfold keyV keyA at *
  obtain ⟨c0, c1, c2, c3⟩ := hkc wa (Below.refl _ _)
  clear hba hwa hkc hsa ha hb hL hl64 hmac hk hq hlen c0 c1 c2 c3
  go_enter Try.func53, Try.ntmps53
  go_wp2_with fail
  rw [HWA.out]
  clear HWA
  refine HB.out.mono ?_
  rintro e w1 ⟨A1, c1, rfl, ho1, hb1⟩
  have HB1 := Lib.hid hb1
  have HS1 := Lib.hid (Sl.of_own ho1)
  clear ho1 hb1 HB
  go_wp2
  go_loopw [6, 7] (fun s6 s7 wr => ∃ (i m : Nat), s6 = .int .u64 (m : Nat) ∧ m = foldE k (L.take i) 0 ∧ s7 = .int .i64 (i : Nat) ∧ i ≤ q ∧ Below w1.heap.size w1 wr) (fun _ s7 _ => q - (intOf s7).toNat)
  case atStart => exact ⟨0, 0, rfl, by rw [List.take_zero, foldE_nil], rfl, by omega, Below.refl _ _⟩
  case round =>
    obtain ⟨i, m, rfl, hm, rfl, hi, hbw⟩ := hrel
    have HBW := Lib.hid hbw
    clear hbw
    by_cases hlt : i < q
    · have hiL : i < L.length := by rw [HLN.out]; exact hlt
      have hm64 : m < 18446744073709551616 := by rw [hm]; exact HFL.out i
      have hx64 := HLT.out L[i] (List.getElem_mem hiL)
      have hst := foldE_take k L 0 i L[i] (List.getElem?_eq_getElem hiL)
      rw [← hm] at hst
      obtain ⟨b0, o0, hA1, f0⟩ := (HS1.out.under HBW.out).at_ (j := i) (u := .int .u64 (L[i] : Nat)) (by simp [w64, List.getElem?_eq_getElem hiL])
      generalize L[i] = x at *
      unfold stepE at hst
      have hxm := xor64i (rfl : m ^^^ x = m ^^^ x) hm64 hx64
      have hmx := xor64 hm64 hx64
      generalize m ^^^ x = y at *
      have HEY := Lib.hid (fun W (hW : Below wr.heap.size wr W) => (HE.out y hmx W).mono fun e w' h => And.intro h.1 (hW.trans (h.2.mono hW.size)))
      generalize encF7 k y = z at *
      have HST := Lib.hid hst
      have hbd : Below wr.heap.size wr wr.drew := below_draws (Below.refl _ _) 1
      have hw1a := HB1.out.trans (HBW.out.mono HB1.out.size)
      have KC := Lib.hid (fun W (hW : Below wr.heap.size wr W) => And.intro ((hW.cell (p := ⟨b0, o0 + i, none⟩) (cell_block f0)).trans f0) (HKC.out W (hw1a.trans (hW.mono hw1a.size))))
      have x0 : (0 : Int) ≤ i := by omega
      have x1 : (i : Int) < q := by omega
      subst hA1
      clear hm hst hw1a f0
      go_wp2_with fail
      go_region_held3 (fun w' => w'.cell? ⟨b0, o0 + i, none⟩ = some (.int .u64 (x : Nat)) ∧ w'.cell? ⟨w.heap.size, 0, none⟩ = some (.int .u32 (k.a : Nat)) ∧ w'.cell? ⟨w.heap.size, 1, none⟩ = some (.int .u32 (k.b : Nat)) ∧ w'.cell? ⟨w.heap.size, 2, none⟩ = some (.int .u32 (k.c : Nat)) ∧ w'.cell? ⟨w.heap.size, 3, none⟩ = some (.int .u32 (k.d : Nat))) (first | exact KC.out _ (by assumption) | go_keep) (first
        | (go_at_call 57; with_reducible refine (HEY.out _ (by assumption)).mono ?_; rintro e w6 ⟨rfl, hb6⟩))
      have HB6 := Lib.hid (HBW.out.trans (hb6.mono HBW.out.size))
      clear hb6 hbd KC HEY HBW
      go_wp2
      go_roundw
      case rel => exact ⟨i + 1, z, rfl, HST.out.symm, by go_num, by omega, HB6.out⟩
      case measure => simp [intOf]; omega
    obtain rfl : i = q := by omega
    rw [List.take_of_length_le (by rw [HLN.out]; exact Nat.le_refl _)] at hm
    have HM := Lib.hid hm
    have HBe := Lib.hid (HBA.out.trans ((HB1.out.trans (HBW.out.mono HB1.out.size)).mono HBA.out.size))
    clear hm
    go_wp2
    go_ret
    exact ⟨by rw [← HM.out]; rfl, HBe.out⟩
end Go.Proofs.Ytekcnmimfhiblaa
