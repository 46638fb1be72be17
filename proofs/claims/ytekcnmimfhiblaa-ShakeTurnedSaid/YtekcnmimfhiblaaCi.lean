/-
  cipher: the keys of the rounds, Encrypt, Decrypt, by contract.
-/
import Derived.Test.YtekcnmimfhiblaaCiRef
import Derived.Test.YtekcnmimfhiblaaCiKey
import Derived.Test.YtekcnmimfhiblaaCiA
import Derived.Deep.RegionWith
import Derived.IntWalk
namespace Go.Proofs.Ytekcnmimfhiblaa
open Go.RowKit
open Go.Great

/-- The three words that are kept: word number l lies at l % 3. -/
def lrow (k : Key4) (i : Nat) : Array Value :=
  if i % 3 = 0 then #[.int .u32 (lAt k i : Nat), .int .u32 (lAt k (i + 1) : Nat), .int .u32 (lAt k (i + 2) : Nat)]
  else if i % 3 = 1 then #[.int .u32 (lAt k (i + 2) : Nat), .int .u32 (lAt k i : Nat), .int .u32 (lAt k (i + 1) : Nat)]
  else #[.int .u32 (lAt k (i + 1) : Nat), .int .u32 (lAt k (i + 2) : Nat), .int .u32 (lAt k i : Nat)]
theorem lrow_zero (k : Key4) : lrow k 0 = #[.int .u32 (k.c : Nat), .int .u32 (k.b : Nat), .int .u32 (k.a : Nat)] := rfl
theorem mod3 (i : Nat) : i % 3 = 0 ∧ (i + 1) % 3 = 1 ∨ i % 3 = 1 ∧ (i + 1) % 3 = 2 ∨ i % 3 = 2 ∧ (i + 1) % 3 = 0 := by omega
theorem lrow_at (k : Key4) (i : Nat) : (lrow k i)[i % 3]? = some (.int .u32 (lAt k i : Nat)) := by
  unfold lrow
  rcases mod3 i with ⟨h, _⟩ | ⟨h, _⟩ | ⟨h, _⟩ <;> rw [h] <;> rfl
theorem lrow_set (k : Key4) (i : Nat) : (lrow k i).setIfInBounds (i % 3) (.int .u32 (lAt k (i + 3) : Nat)) = lrow k (i + 1) := by
  unfold lrow
  rcases mod3 i with ⟨h, g⟩ | ⟨h, g⟩ | ⟨h, g⟩ <;> rw [h, g] <;> rfl
theorem lrow_size (k : Key4) (i : Nat) : (lrow k i).size = 3 := by
  unfold lrow
  rcases mod3 i with ⟨h, _⟩ | ⟨h, _⟩ | ⟨h, _⟩ <;> rw [h] <;> rfl

theorem mid_key (k : Key4) {i : Nat} (h : i < 27) : (midA k (i + 1))[i]? = some (.int .u32 (keyAt k i : Nat)) := by
  rw [← mid_set k h, Array.getElem?_setIfInBounds_self_of_lt]
  have := (Array.getElem?_eq_some_iff.1 (mid_at k h)).1
  exact this

set_option maxRecDepth 100000 in
set_option maxHeartbeats 4000000 in
theorem ocp_rounds (k : Key4) (hk : k.ok) (w : World) :
    Calls Try.prog 73 #[keyV k] w fun e w' => e = .returned (.agg (roundA k)) ∧ Below w.heap.size w w' := by
  unfold keyV keyA
  go_enter Try.func73, Try.ntmps73
  go_upto_block 0 with fail
  obtain ⟨g1, hg1⟩ : ∃ g1, w.heap.size + 1 = g1 := ⟨_, rfl⟩
  rw [hg1]
  obtain ⟨g2, hg2⟩ : ∃ g2, g1 + 1 = g2 := ⟨_, rfl⟩
  rw [hg2]
  obtain ⟨g3, hg3⟩ : ∃ g3, g2 + 1 = g3 := ⟨_, rfl⟩
  rw [hg3]
  obtain ⟨wa, hwa⟩ : ∃ wa, (w.alloc (.cells #[.int .u32 (k.a : Nat), .int .u32 (k.b : Nat), .int .u32 (k.c : Nat), .int .u32 (k.d : Nat)] 24)).alloc (.cells #[.int .u32 0, .int .u32 0, .int .u32 0, .int .u32 0, .int .u32 0, .int .u32 0, .int .u32 0, .int .u32 0, .int .u32 0, .int .u32 0, .int .u32 0, .int .u32 0, .int .u32 0, .int .u32 0, .int .u32 0, .int .u32 0, .int .u32 0, .int .u32 0, .int .u32 0, .int .u32 0, .int .u32 0, .int .u32 0, .int .u32 0, .int .u32 0, .int .u32 0, .int .u32 0, .int .u32 0] 88) = wa := ⟨_, rfl⟩
  rw [hwa]
  have hsa : wa.heap.size = g2 := by rw [← hwa]; simp; omega
  have hz1 : Has wa g1 88 #[.int .u32 0, .int .u32 0, .int .u32 0, .int .u32 0, .int .u32 0, .int .u32 0, .int .u32 0, .int .u32 0, .int .u32 0, .int .u32 0, .int .u32 0, .int .u32 0, .int .u32 0, .int .u32 0, .int .u32 0, .int .u32 0, .int .u32 0, .int .u32 0, .int .u32 0, .int .u32 0, .int .u32 0, .int .u32 0, .int .u32 0, .int .u32 0, .int .u32 0, .int .u32 0, .int .u32 0] := by rw [← hwa]; exact has_at (by simp; omega)
  have hba : Below w.heap.size w wa := by rw [← hwa]; exact ((Below.refl _ _).alloc (Nat.le_refl _) _).alloc (by simp) _
  obtain ⟨wb, hwb⟩ : ∃ wb, wa.alloc (.cells #[.int .u32 (k.d : Nat), .int .u32 0, .int .u32 0, .int .u32 0, .int .u32 0, .int .u32 0, .int .u32 0, .int .u32 0, .int .u32 0, .int .u32 0, .int .u32 0, .int .u32 0, .int .u32 0, .int .u32 0, .int .u32 0, .int .u32 0, .int .u32 0, .int .u32 0, .int .u32 0, .int .u32 0, .int .u32 0, .int .u32 0, .int .u32 0, .int .u32 0, .int .u32 0, .int .u32 0, .int .u32 0] 88) = wb := ⟨_, rfl⟩
  rw [hwb]
  have hsb : wb.heap.size = g3 := by rw [← hwb]; simp; omega
  have hm2 : Has wb g2 88 (midA k 1) := by rw [← hwb]; exact has_at hsa
  obtain ⟨wz, hwz⟩ : ∃ wz, wb.alloc (.cells #[.int .u32 (k.c : Nat), .int .u32 (k.b : Nat), .int .u32 (k.a : Nat)] 105) = wz := ⟨_, rfl⟩
  rw [hwz]
  have hl3 : Has wz g3 105 (lrow k 0) := by rw [← hwz]; exact has_at hsb
  have HL3 := Lib.hid hl3
  have HM2 : Hid (Has wz g2 88 (midA k 1)) := Lib.hid (by rw [← hwz]; exact hm2.beside _)
  have HZ1 : Hid (Has wz g1 88 #[.int .u32 0, .int .u32 0, .int .u32 0, .int .u32 0, .int .u32 0, .int .u32 0, .int .u32 0, .int .u32 0, .int .u32 0, .int .u32 0, .int .u32 0, .int .u32 0, .int .u32 0, .int .u32 0, .int .u32 0, .int .u32 0, .int .u32 0, .int .u32 0, .int .u32 0, .int .u32 0, .int .u32 0, .int .u32 0, .int .u32 0, .int .u32 0, .int .u32 0, .int .u32 0, .int .u32 0]) := Lib.hid (by rw [← hwz, ← hwb]; exact (hz1.beside _).beside _)
  have HBZ : Hid (Below w.heap.size w wz) := Lib.hid (by rw [← hwz, ← hwb]; exact (hba.alloc (by omega) _).alloc (by rw [hwb]; omega) _)
  have HK := Lib.hid hk
  have HG : Hid (w.heap.size + 1 = g1 ∧ g1 + 1 = g2 ∧ g2 + 1 = g3) := Lib.hid ⟨hg1, hg2, hg3⟩
  have hn23 : g2 ≠ g3 := by omega
  have hn32 : g3 ≠ g2 := by omega
  clear hl3 hm2 hz1 hba hwa hwb hwz hsa hsb hg1 hg2 hg3 hk
  go_wp2
  go_loopw [17] (fun s17 wr => ∃ i : Nat, s17 = .int .i64 (i : Nat) ∧ i ≤ 26 ∧ Has wr g2 88 (midA k (i + 1)) ∧ Has wr g3 105 (lrow k i) ∧ Has wr g1 88 #[.int .u32 0, .int .u32 0, .int .u32 0, .int .u32 0, .int .u32 0, .int .u32 0, .int .u32 0, .int .u32 0, .int .u32 0, .int .u32 0, .int .u32 0, .int .u32 0, .int .u32 0, .int .u32 0, .int .u32 0, .int .u32 0, .int .u32 0, .int .u32 0, .int .u32 0, .int .u32 0, .int .u32 0, .int .u32 0, .int .u32 0, .int .u32 0, .int .u32 0, .int .u32 0, .int .u32 0] ∧ Below w.heap.size w wr) (fun s17 _ => 26 - (intOf s17).toNat)
  case atStart => exact ⟨0, rfl, by omega, HM2.out, HL3.out, HZ1.out, HBZ.out⟩
  case round =>
    clear HM2 HL3 HZ1 HBZ
    obtain ⟨i, rfl, hi, hm2, hl3, hz1, hb⟩ := hrel
    have HM := Lib.hid hm2; have HL := Lib.hid hl3; have HZ := Lib.hid hz1; have HB := Lib.hid hb
    clear hm2 hl3 hz1 hb
    by_cases hlt : i < 26
    · have hka := keyAt_lt HK.out (i := i) (by omega)
      have hla := lAt_lt HK.out (i := i) (by omega)
      have HR := Lib.hid (fun W => oround_any (lAt k i) (keyAt k i) i hla hka (by omega) W)
      have e1 := keyAt_succ k i
      have e2 := lAt_succ k i
      unfold kL at e2
      rw [Nat.add_comm (keyAt k i)] at e2
      rw [← e2, ← e1] at HR
      have HLA := Lib.hid (lrow_at k i); have HLS := Lib.hid (lrow_set k i)
      have HMA := Lib.hid (mid_set k (i := i + 1) (by omega))
      have HMZ := Lib.hid (mid_at k (i := i + 1) (by omega))
      have HMK := Lib.hid (show (midA k (i + 1))[i]? = some (.int .u32 (keyAt k i : Nat)) from mid_key k (by omega))
      clear e1 e2 hka hla
      generalize keyAt k (i + 1) = kn at *
      generalize lAt k (i + 3) = L at *
      generalize keyAt k i = ka at *
      generalize lAt k i = la at *
      obtain ⟨a, ha⟩ : ∃ a, i % 3 = a := ⟨_, rfl⟩
      have hat : ((i : Nat) : Int).tmod 3 = (a : Nat) := by rw [← ha]; exact Int.ofNat_tmod i 3 |>.symm ▸ rfl
      rw [ha] at HLA HLS
      have hf : wr.cell? ⟨g3, a, none⟩ = some (.int .u32 (la : Nat)) := by rw [HL.out.cell]; exact HLA.out
      have hk2 : wr.cell? ⟨g2, i, none⟩ = some (.int .u32 (ka : Nat)) := by rw [HM.out.cell]; exact HMK.out
      have x0 : (0 : Int) ≤ i := by omega
      have x1 : (i : Int) < 26 := by omega
      have a0 : (0 : Int) ≤ a := by omega
      have a1 : (a : Int) < 3 := by omega
      have x2 : (i : Int) < 27 := by omega
      have x3 : (i : Int) + 1 < 27 := by omega
      have x4 : (0 : Int) ≤ (i : Int) + 1 := by omega
      have HA := Lib.hid ha
      have x5 : ((i : Int) + 1).toNat = i + 1 := by omega
      have x6 : IntKind.i64.wrap ((i : Int) + 1) = (i : Int) + 1 := IntWalk.i64_in _ (by omega)
      have x7 : IntKind.u32.wrap (i : Int) = (i : Int) := IntWalk.u32_in _ (by omega)
      clear ha
      go_wp2_with fail
      go_region_with (first
        | (go_at_call 75
           refine (HR.out _).mono ?_
           rintro e w6 ⟨rfl, hb6⟩
           have hm6 := HM.out.draw.under hb6 HM.out.draw.lt
           have hl6 := HL.out.draw.under hb6 HL.out.draw.lt
           have HM6 := Lib.hid hm6
           have HL6 := Lib.hid hl6
           have HZ6 := Lib.hid (HZ.out.draw.under hb6 HZ.out.draw.lt)
           have HB6 := Lib.hid ((below_draws HB.out 1).trans (hb6.mono HB.out.size))
           have c1 : w6.cell? ⟨g3, a, none⟩ = some (.int .u32 (la : Nat)) := by rw [hl6.cell]; exact HLA.out
           have c2 := hl6.thaw a
           have c3 : w6.cell? ⟨g2, i + 1, none⟩ = some (.int .u32 0) := by rw [hm6.cell]; exact HMZ.out
           have c4 := hm6.thaw (i + 1)
           clear hb6 hm6 hl6))
      all_goals
        have HM7 : Hid (Has ((w6.setCell ⟨g3, a, none⟩ (.int .u32 (L : Nat))).setCell ⟨g2, i + 1, none⟩ (.int .u32 (kn : Nat))) g2 88 (midA k (i + 1 + 1))) := Lib.hid (by rw [← HMA.out]; exact (HM6.out.apart hn23 _).stored (i + 1) _)
        have HL7 : Hid (Has ((w6.setCell ⟨g3, a, none⟩ (.int .u32 (L : Nat))).setCell ⟨g2, i + 1, none⟩ (.int .u32 (kn : Nat))) g3 105 (lrow k (i + 1))) := Lib.hid (by rw [← HLS.out]; exact (HL6.out.stored a _).apart hn32 _)
        have HZ7 : Hid (Has ((w6.setCell ⟨g3, a, none⟩ (.int .u32 (L : Nat))).setCell ⟨g2, i + 1, none⟩ (.int .u32 (kn : Nat))) g1 88 #[.int .u32 0, .int .u32 0, .int .u32 0, .int .u32 0, .int .u32 0, .int .u32 0, .int .u32 0, .int .u32 0, .int .u32 0, .int .u32 0, .int .u32 0, .int .u32 0, .int .u32 0, .int .u32 0, .int .u32 0, .int .u32 0, .int .u32 0, .int .u32 0, .int .u32 0, .int .u32 0, .int .u32 0, .int .u32 0, .int .u32 0, .int .u32 0, .int .u32 0, .int .u32 0, .int .u32 0]) := Lib.hid ((HZ6.out.apart (show g1 ≠ g3 by have := HG.out; omega) _).apart (show g1 ≠ g2 by have := HG.out; omega) _)
        have HB7 : Hid (Below w.heap.size w ((w6.setCell ⟨g3, a, none⟩ (.int .u32 (L : Nat))).setCell ⟨g2, i + 1, none⟩ (.int .u32 (kn : Nat)))) := Lib.hid (below_only (below_only HB6.out (only_store (only_refl _ (some g3)) rfl _) HB6.out.size (by have := HG.out; omega)) (only_store (only_refl _ (some g2)) rfl _) (by simpa using HB6.out.size) (by have := HG.out; omega))
        clear HM HL HZ HB HM6 HL6 HZ6 HB6 c1 c2 c3 c4 hf hk2
        go_wp2
        go_roundw
        case rel => exact ⟨i + 1, by go_num, by omega, HM7.out, HL7.out, HZ7.out, HB7.out⟩
        case measure => simp [intOf]; omega
    obtain rfl : i = 26 := by omega
    have hm := HM.out
    rw [show 26 + 1 = 27 from rfl, mid_end] at hm
    have HME : Hid (wr.heap[g2]? = some (.cells (roundA k) 88 (0, 0))) := Lib.hid hm
    have HE : Hid (wr.heap[g1]? = some (.cells #[.int .u32 0, .int .u32 0, .int .u32 0, .int .u32 0, .int .u32 0, .int .u32 0, .int .u32 0, .int .u32 0, .int .u32 0, .int .u32 0, .int .u32 0, .int .u32 0, .int .u32 0, .int .u32 0, .int .u32 0, .int .u32 0, .int .u32 0, .int .u32 0, .int .u32 0, .int .u32 0, .int .u32 0, .int .u32 0, .int .u32 0, .int .u32 0, .int .u32 0, .int .u32 0, .int .u32 0] 88 (0, 0))) := Lib.hid HZ.out
    have HF := Lib.hid (has_setRow7 (show Has wr g1 88 _ from HE.out) (roundA k))
    have HBF := Lib.hid (below_row (g := g1) HB.out (by have := HG.out; omega) (roundA k))
    have HIN : Hid ((Try.prog.info? 88).map (·.size) = some (roundA k).size) := Lib.hid (by rw [round_size]; kernel_rfl)
    have HON : Hid ((roundA k).all (·.oneCell') = true) := Lib.hid (by simp [roundA, wordsA, Value.oneCell'])
    have HOS : Hid ((#[.int .u32 0, .int .u32 0, .int .u32 0, .int .u32 0, .int .u32 0, .int .u32 0, .int .u32 0, .int .u32 0, .int .u32 0, .int .u32 0, .int .u32 0, .int .u32 0, .int .u32 0, .int .u32 0, .int .u32 0, .int .u32 0, .int .u32 0, .int .u32 0, .int .u32 0, .int .u32 0, .int .u32 0, .int .u32 0, .int .u32 0, .int .u32 0, .int .u32 0, .int .u32 0, .int .u32 0] : Array Value).size = (roundA k).size) := Lib.hid (by rw [round_size]; rfl)
    clear hm HM HL HZ HB HG
    obtain ⟨RA, hRA⟩ : ∃ RA, roundA k = RA := ⟨_, rfl⟩
    rw [hRA] at HME HF HBF HIN HON HOS
    have HRA := Lib.hid hRA
    clear hRA
    go_wp2_with (first
      | (with_reducible refine wpList_load_row (o := ⟨some 40, _, _, _, _, _⟩) rfl 88 (.tmp 3) rfl g2 rfl 88 RA (0, 0) _ HME.out Try.underlying88 rfl HIN.out ?_)
      | (with_reducible refine wpList_store_rowTo (o := ⟨none, _, _, _, _, _⟩) rfl 88 _ _ rfl rfl g1 RA rfl rfl 88 _ HE.out HIN.out HOS.out HON.out ?_))
    refine bodyPost_ret (results_cell_row rfl _ _ g1 88 _ _ _ rfl HF.out Try.underlying88 rfl HIN.out) rfl ?_
    exact ⟨by rw [HRA.out], HBF.out⟩

set_option maxRecDepth 100000 in
set_option maxHeartbeats 4000000 in
theorem ocp_encrypt (k : Key4) (hk : k.ok) (b : Nat) (hb : b < 18446744073709551616) (w : World) :
    Calls Try.prog 65 #[keyV k, .int .u64 (b : Nat)] w fun e w' => e = .returned (.int .u64 (encF7 k b : Nat)) ∧ Below w.heap.size w w' := by
  have HR := Lib.hid (fun W => ocp_rounds k hk W)
  have HS := Lib.hid (fun W => osplit_any b hb W)
  obtain ⟨wa, hwa, hba, hsa, hkc⟩ := key_box k w
  have HBA := Lib.hid hba; have HWA := Lib.hid hwa
  obtain ⟨c0, c1, c2, c3⟩ := hkc wa (Below.refl _ _)
  have HKO := Lib.hid hk
  have hp := ofB_ok hb
  unfold keyV keyA at HR ⊢
  clear hba hwa hk hkc hsa
  go_enter Try.func65, Try.ntmps65
  go_wp2_with fail
  rw [HWA.out]
  refine (HR.out _).mono ?_
  rintro e w2 ⟨rfl, hb2⟩
  have hbz := hb2.alloc hb2.size (.cells #[.int .u32 0, .int .u32 0, .int .u32 0, .int .u32 0, .int .u32 0, .int .u32 0, .int .u32 0, .int .u32 0, .int .u32 0, .int .u32 0, .int .u32 0, .int .u32 0, .int .u32 0, .int .u32 0, .int .u32 0, .int .u32 0, .int .u32 0, .int .u32 0, .int .u32 0, .int .u32 0, .int .u32 0, .int .u32 0, .int .u32 0, .int .u32 0, .int .u32 0, .int .u32 0, .int .u32 0] 88)
  have hz2 := Has.made w2 88 #[.int .u32 0, .int .u32 0, .int .u32 0, .int .u32 0, .int .u32 0, .int .u32 0, .int .u32 0, .int .u32 0, .int .u32 0, .int .u32 0, .int .u32 0, .int .u32 0, .int .u32 0, .int .u32 0, .int .u32 0, .int .u32 0, .int .u32 0, .int .u32 0, .int .u32 0, .int .u32 0, .int .u32 0, .int .u32 0, .int .u32 0, .int .u32 0, .int .u32 0, .int .u32 0, .int .u32 0]
  have HE : Hid ((w2.alloc (.cells #[.int .u32 0, .int .u32 0, .int .u32 0, .int .u32 0, .int .u32 0, .int .u32 0, .int .u32 0, .int .u32 0, .int .u32 0, .int .u32 0, .int .u32 0, .int .u32 0, .int .u32 0, .int .u32 0, .int .u32 0, .int .u32 0, .int .u32 0, .int .u32 0, .int .u32 0, .int .u32 0, .int .u32 0, .int .u32 0, .int .u32 0, .int .u32 0, .int .u32 0, .int .u32 0, .int .u32 0] 88)).heap[w2.heap.size]? = some (.cells #[.int .u32 0, .int .u32 0, .int .u32 0, .int .u32 0, .int .u32 0, .int .u32 0, .int .u32 0, .int .u32 0, .int .u32 0, .int .u32 0, .int .u32 0, .int .u32 0, .int .u32 0, .int .u32 0, .int .u32 0, .int .u32 0, .int .u32 0, .int .u32 0, .int .u32 0, .int .u32 0, .int .u32 0, .int .u32 0, .int .u32 0, .int .u32 0, .int .u32 0, .int .u32 0, .int .u32 0] 88 (0, 0))) := Lib.hid hz2
  have hm3 := has_setRow7 hz2 (roundA k)
  have hb3 := below_row (g := w2.heap.size) hbz hb2.size (roundA k)
  have hsz3 : w2.heap.size < ((w2.alloc (.cells #[.int .u32 0, .int .u32 0, .int .u32 0, .int .u32 0, .int .u32 0, .int .u32 0, .int .u32 0, .int .u32 0, .int .u32 0, .int .u32 0, .int .u32 0, .int .u32 0, .int .u32 0, .int .u32 0, .int .u32 0, .int .u32 0, .int .u32 0, .int .u32 0, .int .u32 0, .int .u32 0, .int .u32 0, .int .u32 0, .int .u32 0, .int .u32 0, .int .u32 0, .int .u32 0, .int .u32 0] 88)).setRow w2.heap.size (roundA k)).heap.size := by simp
  obtain ⟨w3, hw3⟩ : ∃ w3, (w2.alloc (.cells #[.int .u32 0, .int .u32 0, .int .u32 0, .int .u32 0, .int .u32 0, .int .u32 0, .int .u32 0, .int .u32 0, .int .u32 0, .int .u32 0, .int .u32 0, .int .u32 0, .int .u32 0, .int .u32 0, .int .u32 0, .int .u32 0, .int .u32 0, .int .u32 0, .int .u32 0, .int .u32 0, .int .u32 0, .int .u32 0, .int .u32 0, .int .u32 0, .int .u32 0, .int .u32 0, .int .u32 0] 88)).setRow w2.heap.size (roundA k) = w3 := ⟨_, rfl⟩
  rw [hw3] at hm3 hb3 hsz3
  have HM3 := Lib.hid hm3; have HB3 := Lib.hid (HBA.out.trans (hb3.mono HBA.out.size)); have HW3 := Lib.hid hw3
  have HIN : Hid ((Try.prog.info? 88).map (·.size) = some (roundA k).size) := Lib.hid (by rw [round_size]; kernel_rfl)
  have HON : Hid ((roundA k).all (·.oneCell') = true) := Lib.hid (by simp [roundA, wordsA, Value.oneCell'])
  have HOS : Hid ((#[.int .u32 0, .int .u32 0, .int .u32 0, .int .u32 0, .int .u32 0, .int .u32 0, .int .u32 0, .int .u32 0, .int .u32 0, .int .u32 0, .int .u32 0, .int .u32 0, .int .u32 0, .int .u32 0, .int .u32 0, .int .u32 0, .int .u32 0, .int .u32 0, .int .u32 0, .int .u32 0, .int .u32 0, .int .u32 0, .int .u32 0, .int .u32 0, .int .u32 0, .int .u32 0, .int .u32 0] : Array Value).size = (roundA k).size) := Lib.hid (by rw [round_size]; rfl)
  have hat : ∀ i, i < 27 → (roundA k)[i]? = some (.int .u32 (keyAt k i : Nat)) := fun i hi => by
    unfold roundA
    rw [wordsA_at, rounds_at k hi]
    rfl
  have HAT := Lib.hid hat
  obtain ⟨RA, hRA⟩ : ∃ RA, roundA k = RA := ⟨_, rfl⟩
  rw [hRA] at HM3 HIN HON HOS HAT HW3 ⊢
  clear hRA hbz hz2 hm3 hb3 hw3 hat hb2 HR HWA c0 c1 c2 c3
  go_wp2_with (with_reducible refine wpList_store_rowTo (o := ⟨none, _, _, _, _, _⟩) rfl 88 _ _ rfl rfl w2.heap.size RA rfl rfl 88 _ HE.out HIN.out HOS.out HON.out ?_)
  rw [HW3.out]
  refine (HS.out _).mono ?_
  rintro e w4 ⟨rfl, hb4⟩
  have HB4 := Lib.hid hb4
  clear HE HIN HON HOS HW3 hb4 HS
  go_wp2
  go_loopw [6, 7, 16] (fun s6 s7 s16 wr => ∃ (i x y : Nat), s6 = .int .u32 (x : Nat) ∧ s7 = .int .u32 (y : Nat) ∧ s16 = .int .i64 (i : Nat) ∧ i ≤ 27 ∧ encL ((roundsF k).take i) (ofB b) = (x, y) ∧ x < 4294967296 ∧ y < 4294967296 ∧ Below w3.heap.size w3 wr) (fun _ _ s16 _ => 27 - (intOf s16).toNat)
  case atStart => exact ⟨0, b / 4294967296, b % 4294967296, rfl, rfl, rfl, by omega, encL_nil _, hp.1, hp.2, HB4.out⟩
  case round =>
    clear HB4
    obtain ⟨i, x, y, rfl, rfl, rfl, hi, hen, hx, hy, hbw⟩ := hrel
    have HEN := Lib.hid hen; have HBW := Lib.hid hbw
    clear hen hbw
    by_cases hlt : i < 27
    · have f0 : wr.cell? ⟨w2.heap.size, i, none⟩ = some (.int .u32 (keyAt k i : Nat)) := by
        rw [(HM3.out.under HBW.out hsz3).cell]; exact HAT.out i hlt
      have hr := keyAt_lt HKO.out (i := i) (by omega)
      have hst := encL_take (roundsF k) (ofB b) i _ (rounds_at k hlt)
      rw [HEN.out] at hst
      have HRO := Lib.hid (fun W => oround_any x y (keyAt k i) hx hy hr W)
      have hok := encR_ok hr (show ok2 (x, y) from ⟨hx, hy⟩)
      unfold encR at hst hok
      simp only at hst
      obtain ⟨u, hu⟩ : ∃ u, (rr8 x + y) % 4294967296 ^^^ keyAt k i = u := ⟨_, rfl⟩
      obtain ⟨v, hv⟩ : ∃ v, rl3 y ^^^ u = v := ⟨_, rfl⟩
      rw [hu, hv] at hst hok HRO
      have HST := Lib.hid hst; have HOK := Lib.hid hok
      clear hst hok hu hv HEN
      generalize keyAt k i = r at *
      have x0 : (0 : Int) ≤ i := by omega
      have x1 : (i : Int) < 27 := by omega
      go_wp2_with fail
      refine (HRO.out _).mono ?_
      rintro e w5 ⟨rfl, hb5⟩
      have HB5 := Lib.hid (HBW.out.trans (hb5.mono HBW.out.size))
      clear hb5 HRO HBW f0
      go_wp2
      go_roundw
      case rel => exact ⟨i + 1, u, v, rfl, rfl, by go_num, by omega, HST.out, HOK.out.1, HOK.out.2, HB5.out⟩
      case measure => simp [intOf]; omega
    obtain rfl : i = 27 := by omega
    have hen := HEN.out
    rw [List.take_of_length_le (by rw [rounds_len]; exact Nat.le_refl _)] at hen
    have hF : encF7 k b = x * 4294967296 + y := by unfold encF7; rw [hen, toB]
    have HF := Lib.hid hF
    have HJ := Lib.hid (fun W => ojoin_any x y hx hy W)
    have HBe := Lib.hid (HB3.out.trans (HBW.out.mono (by have := HB3.out.size; omega)))
    clear hen hF HEN HBW HM3 HAT HB3
    go_wp2_with fail
    refine (HJ.out _).mono ?_
    rintro e w5 ⟨rfl, hb5⟩
    have HBF := Lib.hid (HBe.out.trans (hb5.mono HBe.out.size))
    clear hb5 HBe HJ
    go_wp2
    go_ret
    exact ⟨by rw [HF.out]; rfl, HBF.out⟩
end Go.Proofs.Ytekcnmimfhiblaa
