/-
  linesidelaw07.CipherRounds, walked.
-/
import Derived.Test.YthdhcafnfomepaaLawAwake07
import Derived.Deep.RegionHeld3
namespace Go.Proofs.Ythdhcafnfomepaa
open Go.RowKit

set_option maxRecDepth 100000 in
set_option maxHeartbeats 4000000 in
theorem cipherRounds_walk (k : Key4) (w : World) (hk : k.ok) :
    Calls Try.prog 3 #[keyV k] w fun e w' => e = .returned (.bool true) ∧ Below w.heap.size w w' := by
  obtain ⟨wa, hwa, hba, hsa, hkc⟩ := key_box k w
  have HBA := Lib.hid hba; have HWA := Lib.hid hwa; have HKC := Lib.hid hkc
  have HA := Lib.hid (awake7_any wa)
  have HE := Lib.hid (fun W => ocp_rounds k hk W)
  have RE := Lib.hid (fun W => ref_rounds k hk W)
  unfold keyV keyA at *
  clear hba hwa hkc hsa
  go_enter Try.func3, Try.ntmps3
  go_wp2_with fail
  rw [HWA.out]
  clear HWA
  refine HA.out.mono ?_
  rintro e w1 ⟨rfl, hb1⟩
  have HB1 := Lib.hid (HBA.out.trans (hb1.mono HBA.out.size))
  have HKC1 := Lib.hid (fun W (hW : Below w1.heap.size w1 W) => HKC.out W (hb1.trans (hW.mono hb1.size)))
  have hbd : Below w1.heap.size w1 w1.drew := below_draws (Below.refl _ _) 1
  have HE1 := Lib.hid (fun W (hW : Below w1.heap.size w1 W) => (HE.out W).mono fun e w' h => And.intro h.1 (hW.trans (h.2.mono hW.size)))
  have RE1 := Lib.hid (fun W (hW : Below w1.heap.size w1 W) => (RE.out W).mono fun e w' h => And.intro h.1 (hW.trans (h.2.mono hW.size)))
  have q1 := HKC1.out w1 (Below.refl _ _)
  have hq : ∀ W, (Op.equalIn 10000 26 (.agg (roundA k)) (.agg (roundA k))).run Try.prog W = .ok true W := fun W => by
    rw [eq_rounds k k W, decide_eq_true rfl]
  have HQ := Lib.hid hq
  clear hq
  generalize roundA k = RA at *
  clear hb1 HA HBA HKC HE RE
  go_wp2_with fail
  go_region_held3 (fun w' => w'.cell? ⟨w.heap.size, 0, none⟩ = some (.int .u32 (k.a : Nat)) ∧ w'.cell? ⟨w.heap.size, 1, none⟩ = some (.int .u32 (k.b : Nat)) ∧ w'.cell? ⟨w.heap.size, 2, none⟩ = some (.int .u32 (k.c : Nat)) ∧ w'.cell? ⟨w.heap.size, 3, none⟩ = some (.int .u32 (k.d : Nat)) ∧ (Op.equalIn 10000 26 (.agg RA) (.agg RA)).run Try.prog w' = .ok true w') (first | (have h9 := HKC1.out _ (by assumption); exact ⟨h9.1, h9.2.1, h9.2.2.1, h9.2.2.2, HQ.out _⟩) | go_keep) (first
    | (go_at_call 9; with_reducible refine (HE1.out _ (by assumption)).mono ?_; rintro e v0 ⟨rfl, hc0⟩)
    | (go_at_call 10; with_reducible refine (RE1.out _ (by assumption)).mono ?_; rintro e v1 ⟨rfl, hc1⟩))
  have HBF := Lib.hid (HB1.out.trans (hc1.mono HB1.out.size))
  clear hbd hc0 hc1 q1
  go_wp2
  go_ret
  exact ⟨rfl, HBF.out⟩
end Go.Proofs.Ythdhcafnfomepaa
