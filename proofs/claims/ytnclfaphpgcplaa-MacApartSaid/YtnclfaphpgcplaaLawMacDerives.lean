/-
  linesidelaw08.MacDerives, walked.
-/
import Derived.Test.YtnclfaphpgcplaaLawAwake08
namespace Go.Proofs.Ytnclfaphpgcplaa
open Go.RowKit

theorem key_words (k : Key4) : keyA k = wordsA .u32 [k.a, k.b, k.c, k.d] := rfl
def keyL (k : Key4) : List Nat := [k.a, k.b, k.c, k.d]
theorem keyL_inj (k q : Key4) : keyL k = keyL q ↔ k = q := by
  obtain ⟨a, b, c, d⟩ := k
  obtain ⟨a', b', c', d'⟩ := q
  simp [keyL]
theorem eq_keys (k q : Key4) (W : World) : (Op.equalIn 10000 24 (.agg (keyA k)) (.agg (keyA q))).run Try.prog W = .ok (decide (keyL k = keyL q)) W := by
  rw [key_words, key_words, show (10000 : Nat) = 9999 + 1 from rfl]
  exact run_equalIn_words W 9999 24 22 4 .u32 Try.underlying24 (fun a b => run_equalIn_int W 9998 22 .u32 .u32 a b Try.underlying22) (by kernel_rfl) (by kernel_rfl) (keyL k) (keyL q) rfl rfl

set_option maxRecDepth 100000 in
set_option maxHeartbeats 4000000 in
theorem macDerives_walk (k : Key4) (x y : Int) (w : World) (hk : k.ok) (hx : (Lit.int .u32 x).wf = true) (hy : (Lit.int .u32 y).wf = true) :
    Calls Try.prog 4 #[keyV k, .int .u32 x, .int .u32 y] w fun e w' => e = .returned (.bool true) ∧ Below w.heap.size w w' := by
  obtain ⟨x, rfl, bx⟩ := u32_nat hx
  obtain ⟨y, rfl, by'⟩ := u32_nat hy
  obtain ⟨wa, hwa, hba, hsa, hkc⟩ := key_box k w
  have HBA := Lib.hid hba; have HWA := Lib.hid hwa; have HKC := Lib.hid hkc
  have HA := Lib.hid (awake8_any wa)
  have HE := Lib.hid (fun W => omc_derive k hk x y bx by' W)
  have RE := Lib.hid (fun W => ref_derive k hk x y bx by' W)
  have hq : ∀ W, (Op.equalIn 10000 24 (.agg (keyA (deriveF k x y))) (.agg (keyA (deriveF k x y)))).run Try.prog W = .ok true W := fun W => by
    rw [eq_keys _ _ W, decide_eq_true rfl]
  have HQ := Lib.hid hq
  clear hq hx hy
  unfold keyV at *
  unfold keyA at *
  generalize (((deriveF k x y).a : Nat) : Int) = p0 at *
  generalize (((deriveF k x y).b : Nat) : Int) = p1 at *
  generalize (((deriveF k x y).c : Nat) : Int) = p2 at *
  generalize (((deriveF k x y).d : Nat) : Int) = p3 at *
  obtain ⟨RA, hRA⟩ : ∃ RA : Array Value, #[.int .u32 p0, .int .u32 p1, .int .u32 p2, .int .u32 p3] = RA := ⟨_, rfl⟩
  rw [hRA] at HE RE HQ
  clear hRA
  clear hba hwa hkc hsa hk bx by'
  go_enter Try.func4, Try.ntmps4
  go_wp2_with fail
  rw [HWA.out]
  clear HWA
  refine HA.out.mono ?_
  rintro e w1 ⟨rfl, hb1⟩
  have HB1 := Lib.hid (HBA.out.trans (hb1.mono HBA.out.size))
  have HKC1 := Lib.hid (fun W (hW : Below w1.heap.size w1 W) => HKC.out W (hb1.trans (hW.mono hb1.size)))
  have hbd : Below w1.heap.size w1 w1.drew := below_draws (Below.refl _ _) 1
  have HE1 := Lib.hid (fun W (hW : Below w1.heap.size w1 W) => (HE.out W).mono fun e w' h => And.intro h.1 (hW.trans (h.2.mono hW.size)))
  have RE1 := Lib.hid (fun W (hW : Below w1.heap.size w1 W) => (RE.out W).mono fun e w' h => And.intro h.1 (hW.trans (h.2.mono hW.size)))
  have q1 := HKC1.out w1 (Below.refl _ _)
  clear hb1 HA HBA HKC HE RE
  go_wp2_with fail
  go_region_held3 (fun w' => w'.cell? ⟨w.heap.size, 0, none⟩ = some (.int .u32 (k.a : Nat)) ∧ w'.cell? ⟨w.heap.size, 1, none⟩ = some (.int .u32 (k.b : Nat)) ∧ w'.cell? ⟨w.heap.size, 2, none⟩ = some (.int .u32 (k.c : Nat)) ∧ w'.cell? ⟨w.heap.size, 3, none⟩ = some (.int .u32 (k.d : Nat)) ∧ (Op.equalIn 10000 24 (.agg RA) (.agg RA)).run Try.prog w' = .ok true w') (first | (have h9 := HKC1.out _ (by assumption); exact ⟨h9.1, h9.2.1, h9.2.2.1, h9.2.2.2, HQ.out _⟩) | go_keep) (first
    | (go_at_call 11; with_reducible refine (HE1.out _ (by assumption)).mono ?_; rintro e v0 ⟨rfl, hc0⟩)
    | (go_at_call 12; with_reducible refine (RE1.out _ (by assumption)).mono ?_; rintro e v1 ⟨rfl, hc1⟩))
  have HBF := Lib.hid (HB1.out.trans (hc1.mono HB1.out.size))
  clear hbd hc0 hc1 q1
  go_wp2
  go_ret
  exact ⟨rfl, HBF.out⟩
end Go.Proofs.Ytnclfaphpgcplaa
