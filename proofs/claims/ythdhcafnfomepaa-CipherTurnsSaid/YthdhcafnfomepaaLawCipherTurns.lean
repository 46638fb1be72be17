/-
  linesidelaw07.CipherTurns, walked.
-/
import Derived.Test.YthdhcafnfomepaaLawAwake07
import Derived.Deep.RegionHeld3
namespace Go.Proofs.Ythdhcafnfomepaa
open Go.RowKit

set_option maxRecDepth 100000 in
set_option maxHeartbeats 4000000 in
theorem cipherTurns_walk (k : Key4) (b : Int) (w : World) (hk : k.ok) (hb : (Lit.int .u64 b).wf = true) :
    Calls Try.prog 4 #[keyV k, .int .u64 b] w fun e w' => e = .returned (.bool true) ∧ Below w.heap.size w w' := by
  obtain ⟨b, rfl, bb⟩ := u64_nat hb
  clear hb
  obtain ⟨wa, hwa, hba, hsa, hkc⟩ := key_box k w
  have HBA := Lib.hid hba; have HWA := Lib.hid hwa; have HKC := Lib.hid hkc
  have HA := Lib.hid (awake7_any wa)
  have HE := Lib.hid (fun W => ocp_encrypt k hk b bb W)
  have HD := Lib.hid (fun W => ocp_decrypt k hk b bb W)
  have RE := Lib.hid (fun W => ref_encrypt k hk b bb W)
  have RD := Lib.hid (fun W => ref_decrypt k hk b bb W)
  unfold keyV keyA at *
  clear hba hwa hkc hsa
  go_enter Try.func4, Try.ntmps4
  go_wp2_with fail
  rw [HWA.out]
  clear HWA
  refine HA.out.mono ?_
  rintro e w1 ⟨rfl, hb1⟩
  have HB1 := Lib.hid (HBA.out.trans (hb1.mono HBA.out.size))
  have HKC1 := Lib.hid (fun W (hW : Below w1.heap.size w1 W) => HKC.out W (hb1.trans (hW.mono hb1.size)))
  have hbd : Below w1.heap.size w1 w1.drew := below_draws (Below.refl _ _) 1
  have HE1 := Lib.hid (fun W (hW : Below w1.heap.size w1 W) => (HE.out W).mono fun e w' h => And.intro h.1 (hW.trans (h.2.mono hW.size)))
  have HD1 := Lib.hid (fun W (hW : Below w1.heap.size w1 W) => (HD.out W).mono fun e w' h => And.intro h.1 (hW.trans (h.2.mono hW.size)))
  have RE1 := Lib.hid (fun W (hW : Below w1.heap.size w1 W) => (RE.out W).mono fun e w' h => And.intro h.1 (hW.trans (h.2.mono hW.size)))
  have RD1 := Lib.hid (fun W (hW : Below w1.heap.size w1 W) => (RD.out W).mono fun e w' h => And.intro h.1 (hW.trans (h.2.mono hW.size)))
  have q1 := HKC1.out w1 (Below.refl _ _)
  obtain ⟨x, hx⟩ : ∃ x, encF7 k b = x := ⟨_, rfl⟩
  obtain ⟨y, hy⟩ : ∃ y, decF7 k b = y := ⟨_, rfl⟩
  rw [hx] at HE1 RE1
  rw [hy] at HD1 RD1
  have x0 : ((x : Int) == x) = true := by simp
  have y0 : ((y : Int) == y) = true := by simp
  clear hx hy
  clear hb1 HA HBA HKC HE HD RE RD
  go_wp2_with fail
  go_region_held3 (fun w' => w'.cell? ⟨w.heap.size, 0, none⟩ = some (.int .u32 (k.a : Nat)) ∧ w'.cell? ⟨w.heap.size, 1, none⟩ = some (.int .u32 (k.b : Nat)) ∧ w'.cell? ⟨w.heap.size, 2, none⟩ = some (.int .u32 (k.c : Nat)) ∧ w'.cell? ⟨w.heap.size, 3, none⟩ = some (.int .u32 (k.d : Nat))) (first | exact HKC1.out _ (by assumption) | go_keep) (first
    | (go_at_call 11; with_reducible refine (HE1.out _ (by assumption)).mono ?_; rintro e v0 ⟨rfl, hc0⟩)
    | (go_at_call 12; with_reducible refine (RE1.out _ (by assumption)).mono ?_; rintro e v1 ⟨rfl, hc1⟩)
    | (go_at_call 13; with_reducible refine (HD1.out _ (by assumption)).mono ?_; rintro e v2 ⟨rfl, hc2⟩)
    | (go_at_call 14; with_reducible refine (RD1.out _ (by assumption)).mono ?_; rintro e v3 ⟨rfl, hc3⟩))
  have HBF := Lib.hid (HB1.out.trans (hc3.mono HB1.out.size))
  clear hbd hc0 hc1 hc2 hc3 q1
  go_wp2
  go_ret
  exact ⟨rfl, HBF.out⟩
end Go.Proofs.Ythdhcafnfomepaa
