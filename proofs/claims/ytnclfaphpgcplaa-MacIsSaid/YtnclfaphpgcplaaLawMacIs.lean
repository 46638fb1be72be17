/-
  linesidelaw08.MacIs, walked.
-/
import Derived.Test.YtnclfaphpgcplaaLawAwake08
import Derived.Test.YtnclfaphpgcplaaOpen
import Derived.BigQuiet
namespace Go.Proofs.Ytnclfaphpgcplaa
open Go.RowKit

set_option maxRecDepth 100000 in
set_option maxHeartbeats 4000000 in
theorem macIs_walk (k : Key4) (A : Option Addr) (n c : Nat) (zs : List Int) (w : World) (hk : k.ok) (hcn : InInts .u8 w A n zs ∧ (A = none → c = 0)) :
    Calls Try.prog 3 #[keyV k, .slice A n c] w fun e w' => e = .returned (.bool true) ∧ Below w.heap.size w w' := by
  obtain ⟨h, _⟩ := hcn
  obtain ⟨hl, _, ha, hb⟩ := h.bytes
  obtain ⟨wa, hwa, hba, hsa, hkc⟩ := key_box k w
  have HBA := Lib.hid hba; have HWA := Lib.hid hwa; have HKC := Lib.hid hkc
  have HA := Lib.hid (awake8_any wa)
  rw [← hl]
  generalize zs.map Int.toNat = xs at *
  have HAT := Lib.hid (fun W (hW : Below w.heap.size w W) => at8_low8 ha hW)
  have HO := Lib.hid (fun (hn : xs.length ≤ 2000) W (hW : Below w.heap.size w W) => omc_mac k hk A c xs W (HAT.out W hW) hb (by omega))
  have HR := Lib.hid (fun (hn : xs.length ≤ 2000) W (hW : Below w.heap.size w W) => ref_mac k hk A c xs W (HAT.out W hW) hb (by omega))
  unfold keyV keyA at *
  clear hba hwa hkc hsa ha hb h hl hk
  go_enter Try.func3, Try.ntmps3
  go_wp2_with fail
  rw [HWA.out]
  clear HWA
  refine HA.out.mono ?_
  rintro e w1 ⟨rfl, hb1⟩
  have HB1 := Lib.hid (HBA.out.trans (hb1.mono HBA.out.size))
  have HK1 := Lib.hid (fun W (hW : Below w1.heap.size w1 W) => HKC.out W (hb1.trans (hW.mono hb1.size)))
  have hbd : Below w1.heap.size w1 w1.drew := below_draws (Below.refl _ _) 1
  clear hb1 HA HBA HKC
  by_cases hin : xs.length ≤ 2000
  · have x1 : ¬ (2000 : Int) < (xs.length : Int) := by omega
    have HO1 := Lib.hid (fun W (hW : Below w1.heap.size w1 W) => (HO.out hin W (HB1.out.trans (hW.mono HB1.out.size))).mono fun e w' h => And.intro h.1 (hW.trans (h.2.mono hW.size)))
    have HR1 := Lib.hid (fun W (hW : Below w1.heap.size w1 W) => (HR.out hin W (HB1.out.trans (hW.mono HB1.out.size))).mono fun e w' h => And.intro h.1 (hW.trans (h.2.mono hW.size)))
    generalize macF k xs = m at *
    have y0 : ((m : Int) == (m : Int)) = true := by simp
    clear hin HO HR HAT
    go_wp2_with fail
    go_region_held3 (fun w' => w'.cell? ⟨w.heap.size, 0, none⟩ = some (.int .u32 (k.a : Nat)) ∧ w'.cell? ⟨w.heap.size, 1, none⟩ = some (.int .u32 (k.b : Nat)) ∧ w'.cell? ⟨w.heap.size, 2, none⟩ = some (.int .u32 (k.c : Nat)) ∧ w'.cell? ⟨w.heap.size, 3, none⟩ = some (.int .u32 (k.d : Nat))) (first | exact HK1.out _ (by assumption) | go_keep) (first
      | (go_at_call 9; with_reducible refine (HO1.out _ (by assumption)).mono ?_; rintro e v0 ⟨rfl, hc0⟩)
      | (go_at_call 10; with_reducible refine (HR1.out _ (by assumption)).mono ?_; rintro e v1 ⟨rfl, hc1⟩))
    have HBF := Lib.hid (HB1.out.trans (hc1.mono HB1.out.size))
    clear hbd hc0 hc1
    go_wp2
    go_ret
    exact ⟨rfl, HBF.out⟩
  · have x1 : (2000 : Int) < (xs.length : Int) := by omega
    clear hin HO HR HAT
    go_wp2
    go_ret
    exact ⟨rfl, HB1.out⟩
end Go.Proofs.Ytnclfaphpgcplaa
