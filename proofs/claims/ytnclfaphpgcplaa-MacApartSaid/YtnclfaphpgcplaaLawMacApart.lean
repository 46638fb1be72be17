/-
  linesidelaw08.MacApart, walked.
-/
import Derived.Test.YtnclfaphpgcplaaLawMacDerives
import Derived.Deep.RegionWith
namespace Go.Proofs.Ytnclfaphpgcplaa
open Go.RowKit

set_option maxRecDepth 100000 in
set_option maxHeartbeats 4000000 in
theorem macApart_walk (k : Key4) (x y p q : Int) (w : World) (hk : k.ok) (hx : (Lit.int .u32 x).wf = true) (hy : (Lit.int .u32 y).wf = true) (hp : (Lit.int .u32 p).wf = true) (hq : (Lit.int .u32 q).wf = true) :
    Calls Try.prog 7 #[keyV k, .int .u32 x, .int .u32 y, .int .u32 p, .int .u32 q] w fun e w' => e = .returned (.bool true) ∧ Below w.heap.size w w' := by
  obtain ⟨x, rfl, bx⟩ := u32_nat hx
  obtain ⟨y, rfl, by'⟩ := u32_nat hy
  obtain ⟨p, rfl, bp⟩ := u32_nat hp
  obtain ⟨q, rfl, bq⟩ := u32_nat hq
  obtain ⟨wa, hwa, hba, hsa, hkc⟩ := key_box k w
  have HBA := Lib.hid hba; have HWA := Lib.hid hwa; have HKC := Lib.hid hkc
  have HA := Lib.hid (awake8_any wa)
  have HE := Lib.hid (fun W => omc_derive k hk x y bx by' W)
  have GE := Lib.hid (fun W => omc_derive k hk p q bp bq W)
  have hinj := (keyL_inj _ _).trans (derive_inj hk bx by' bp bq)
  obtain ⟨eq, heq⟩ : ∃ b : Bool, b = decide (keyL (deriveF k x y) = keyL (deriveF k p q)) := ⟨_, rfl⟩
  have HQ := Lib.hid (fun W => (eq_keys (deriveF k x y) (deriveF k p q) W).trans (by rw [← heq]))
  obtain ⟨e1, he1⟩ : ∃ b : Bool, b = ((x : Int) == (p : Int)) := ⟨_, rfl⟩
  obtain ⟨e2, he2⟩ : ∃ b : Bool, b = ((y : Int) == (q : Int)) := ⟨_, rfl⟩
  have hb1 : e1 = decide (x = p) := by rw [he1]; by_cases h : x = p <;> simp [h]; omega
  have hb2 : e2 = decide (y = q) := by rw [he2]; by_cases h : y = q <;> simp [h]; omega
  have hall : eq = (e1 && e2) := by rw [heq, hb1, hb2, decide_eq_decide.2 hinj, Bool.decide_and]
  clear hx hy hp hq hb1 hb2 heq hinj
  unfold keyV at *
  unfold keyA at *
  generalize (((deriveF k x y).a : Nat) : Int) = p0 at *
  generalize (((deriveF k x y).b : Nat) : Int) = p1 at *
  generalize (((deriveF k x y).c : Nat) : Int) = p2 at *
  generalize (((deriveF k x y).d : Nat) : Int) = p3 at *
  generalize (((deriveF k p q).a : Nat) : Int) = q0 at *
  generalize (((deriveF k p q).b : Nat) : Int) = q1 at *
  generalize (((deriveF k p q).c : Nat) : Int) = q2 at *
  generalize (((deriveF k p q).d : Nat) : Int) = q3 at *
  obtain ⟨RA, hRA⟩ : ∃ R : Array Value, #[.int .u32 p0, .int .u32 p1, .int .u32 p2, .int .u32 p3] = R := ⟨_, rfl⟩
  obtain ⟨RB, hRB⟩ : ∃ R : Array Value, #[.int .u32 q0, .int .u32 q1, .int .u32 q2, .int .u32 q3] = R := ⟨_, rfl⟩
  rw [hRA] at HE HQ
  rw [hRB] at GE HQ
  clear hRA hRB
  clear hba hwa hkc hsa hk bx by' bp bq
  go_enter Try.func7, Try.ntmps7
  go_wp2_with fail
  rw [HWA.out]
  clear HWA
  refine HA.out.mono ?_
  rintro e w1 ⟨rfl, hb1⟩
  have HB1 := Lib.hid (HBA.out.trans (hb1.mono HBA.out.size))
  have HKC1 := Lib.hid (fun W (hW : Below w1.heap.size w1 W) => HKC.out W (hb1.trans (hW.mono hb1.size)))
  have hbd : Below w1.heap.size w1 w1.drew := below_draws (Below.refl _ _) 1
  have HE1 := Lib.hid (fun W (hW : Below w1.heap.size w1 W) => (HE.out W).mono fun e w' h => And.intro h.1 (hW.trans (h.2.mono hW.size)))
  have GE1 := Lib.hid (fun W (hW : Below w1.heap.size w1 W) => (GE.out W).mono fun e w' h => And.intro h.1 (hW.trans (h.2.mono hW.size)))
  have q1 := HKC1.out w1 (Below.refl _ _)
  clear hb1 HA HBA HKC HE GE
  have he1' := he1.symm; have he2' := he2.symm
  clear he1 he2
  subst hall
  go_wp2_with fail
  rcases e1 with _ | _
  · change Hid (∀ W, (Op.equalIn 10000 24 (.agg RA) (.agg RB)).run Try.prog W = .ok false W) at HQ
    have hq := HQ.out
    obtain ⟨k0, k1, k2, k3⟩ := HKC1.out w1.drew hbd
    first
      | go_region_with (first
          | (go_at_call 11; with_reducible refine (HE1.out _ (by assumption)).mono ?_; rintro e v0 ⟨rfl, hc0⟩; obtain ⟨k4, k5, k6, k7⟩ := HKC1.out v0 hc0)
          | (go_at_call 11; with_reducible refine (GE1.out _ (by assumption)).mono ?_; rintro e v1 ⟨rfl, hc1⟩; obtain ⟨k8, k9, k10, k11⟩ := HKC1.out v1 hc1))
      | fail
    all_goals
      have HBF := Lib.hid (HB1.out.trans ((by assumption : Below w1.heap.size w1 _).mono HB1.out.size))
      go_wp2
      go_ret
      exact ⟨rfl, HBF.out⟩
  rcases e2 with _ | _
  · change Hid (∀ W, (Op.equalIn 10000 24 (.agg RA) (.agg RB)).run Try.prog W = .ok false W) at HQ
    go_region_held3 (fun w' => w'.cell? ⟨w.heap.size, 0, none⟩ = some (.int .u32 (k.a : Nat)) ∧ w'.cell? ⟨w.heap.size, 1, none⟩ = some (.int .u32 (k.b : Nat)) ∧ w'.cell? ⟨w.heap.size, 2, none⟩ = some (.int .u32 (k.c : Nat)) ∧ w'.cell? ⟨w.heap.size, 3, none⟩ = some (.int .u32 (k.d : Nat)) ∧ (Op.equalIn 10000 24 (.agg RA) (.agg RB)).run Try.prog w' = .ok false w') (first | (have h9 := HKC1.out _ (by assumption); exact ⟨h9.1, h9.2.1, h9.2.2.1, h9.2.2.2, HQ.out _⟩) | go_keep) (first
      | (go_at_call 11; with_reducible refine (HE1.out _ (by assumption)).mono ?_; rintro e v0 ⟨rfl, hc0⟩)
      | (go_at_call 11; with_reducible refine (GE1.out _ (by assumption)).mono ?_; rintro e v1 ⟨rfl, hc1⟩))
    all_goals
      have HBF := Lib.hid (HB1.out.trans ((by assumption : Below w1.heap.size w1 _).mono HB1.out.size))
      go_wp2
      go_ret
      exact ⟨rfl, HBF.out⟩
  · change Hid (∀ W, (Op.equalIn 10000 24 (.agg RA) (.agg RB)).run Try.prog W = .ok true W) at HQ
    go_region_held3 (fun w' => w'.cell? ⟨w.heap.size, 0, none⟩ = some (.int .u32 (k.a : Nat)) ∧ w'.cell? ⟨w.heap.size, 1, none⟩ = some (.int .u32 (k.b : Nat)) ∧ w'.cell? ⟨w.heap.size, 2, none⟩ = some (.int .u32 (k.c : Nat)) ∧ w'.cell? ⟨w.heap.size, 3, none⟩ = some (.int .u32 (k.d : Nat)) ∧ (Op.equalIn 10000 24 (.agg RA) (.agg RB)).run Try.prog w' = .ok true w') (first | (have h9 := HKC1.out _ (by assumption); exact ⟨h9.1, h9.2.1, h9.2.2.1, h9.2.2.2, HQ.out _⟩) | go_keep) (first
      | (go_at_call 11; with_reducible refine (HE1.out _ (by assumption)).mono ?_; rintro e v0 ⟨rfl, hc0⟩)
      | (go_at_call 11; with_reducible refine (GE1.out _ (by assumption)).mono ?_; rintro e v1 ⟨rfl, hc1⟩))
    all_goals
      have HBF := Lib.hid (HB1.out.trans ((by assumption : Below w1.heap.size w1 _).mono HB1.out.size))
      go_wp2
      go_ret
      exact ⟨rfl, HBF.out⟩
end Go.Proofs.Ytnclfaphpgcplaa
