/-
  Keys: opened, boxed.
-/
import Derived.Test.YtekcnmimfhiblaaCiRounds
namespace Go.Proofs.Ytekcnmimfhiblaa
open Go.RowKit

theorem u64_nat {a : Int} (h : (Lit.int .u64 a).wf = true) : ∃ n : Nat, a = n ∧ n < 18446744073709551616 := by
  simp only [Lit.wf, Bool.and_eq_true, decide_eq_true_eq] at h
  have h1 : IntKind.u64.min = 0 := rfl
  have h2 : IntKind.u64.max = 18446744073709551615 := rfl
  rw [h1, h2] at h
  exact ⟨a.toNat, by omega, by omega⟩
theorem u32_nat {a : Int} (h : (Lit.int .u32 a).wf = true) : ∃ n : Nat, a = n ∧ n < 4294967296 := by
  simp only [Lit.wf, Bool.and_eq_true, decide_eq_true_eq] at h
  have h1 : IntKind.u32.min = 0 := rfl
  have h2 : IntKind.u32.max = 4294967295 := rfl
  rw [h1, h2] at h
  exact ⟨a.toNat, by omega, by omega⟩
theorem key_cells {k : Key4} {w : World} {g : Nat} (h : Has w g 24 (keyA k)) : w.cell? ⟨g, 0, none⟩ = some (.int .u32 (k.a : Nat)) ∧ w.cell? ⟨g, 1, none⟩ = some (.int .u32 (k.b : Nat)) ∧ w.cell? ⟨g, 2, none⟩ = some (.int .u32 (k.c : Nat)) ∧ w.cell? ⟨g, 3, none⟩ = some (.int .u32 (k.d : Nat)) :=
  ⟨h.cell 0, h.cell 1, h.cell 2, h.cell 3⟩

theorem eq_rounds (k q : Key4) (W : World) : (Op.equalIn 10000 88 (.agg (roundA k)) (.agg (roundA q))).run Try.prog W = .ok (decide (roundsF k = roundsF q)) W :=
  run_equalIn_words W 9999 88 22 27 .u32 Try.underlying88 (fun a b => run_equalIn_int W 9998 22 .u32 .u32 a b Try.underlying22) (by kernel_rfl) (by kernel_rfl) (roundsF k) (roundsF q) (rounds_len k) (rounds_len q)
/-- A key opened: the block of its cells, and what stands below it. -/
theorem key_box (k : Key4) (w : World) : ∃ wa, w.alloc (.cells #[.int .u32 (k.a : Nat), .int .u32 (k.b : Nat), .int .u32 (k.c : Nat), .int .u32 (k.d : Nat)] 24) = wa ∧ Below w.heap.size w wa ∧ wa.heap.size = w.heap.size + 1 ∧ ∀ W, Below wa.heap.size wa W → W.cell? ⟨w.heap.size, 0, none⟩ = some (.int .u32 (k.a : Nat)) ∧ W.cell? ⟨w.heap.size, 1, none⟩ = some (.int .u32 (k.b : Nat)) ∧ W.cell? ⟨w.heap.size, 2, none⟩ = some (.int .u32 (k.c : Nat)) ∧ W.cell? ⟨w.heap.size, 3, none⟩ = some (.int .u32 (k.d : Nat)) :=
  ⟨_, rfl, (Below.refl _ _).alloc (Nat.le_refl _) _, by simp, fun _ hW => key_cells (k := k) ((Has.made w 24 (keyA k)).under hW (by simp))⟩
end Go.Proofs.Ytekcnmimfhiblaa
