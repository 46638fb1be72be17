/-
  package topo as landed: a step as a map's key; the set of what may follow, as it grows.
-/
import Derived.Test.YteioefgckigbcaaToA

import Derived.DeepKeys4

import Derived.Maps.OwnSet

import Derived.Maps.Range

namespace Go.Proofs.Yteioefgckigbcaa

open Go.RowKit

open Go.Maps (Keyed has IsMap)

theorem laid13 : laidOutB Try.prog = true := by kernel_rfl
theorem row_st13 : (75 : TypeId) < Try.prog.types.size := of_decide_eq_true (by kernel_rfl)
theorem wide_st13 : (match Try.prog.underlying 75 with | some (.array _ _) | some (.struct _) => true | _ => false) = true := by kernel_rfl
theorem size_st13 : 1 ≤ Try.prog.types.size := of_decide_eq_true (by kernel_rfl)
theorem cells_st13 : Try.prog.cellsOf 75 = 2 := by kernel_rfl
theorem ktype_st13 : Try.prog.keyType 75 = true := by kernel_rfl
set_option maxRecDepth 100000 in
theorem keyed13 : Keyed Try.prog 75 := Keyed.of_law (deep_law_laid laid13 (m := 3) (by omega) row_st13 (by kernel_rfl) wide_st13)
def wfS (s : St3) : Prop := (Lit.int .i64 s.edge).wf = true
def stK (s : St3) : Lit := .string (keyBytes [.int .i64 s.edge, .bool s.rev])
theorem lits_st13 (d : Nat) (n : Int) (b : Bool) (h : (Lit.int .i64 n).wf = true) : Try.prog.keyLits (d + 2) 75 [.int .i64 n, .bool b] = some [.int .i64 n, .bool b] := by
  have kI : Try.prog.cellsOf 3 = 1 := by kernel_rfl
  have kB : Try.prog.cellsOf 4 = 1 := by kernel_rfl
  simp [Program.keyLits, Try.underlying75, Try.underlying3, Try.underlying4, cells_st13, kI, kB, h]
theorem keyOf_st {s : St3} (h : wfS s) : keyOf Try.prog 75 (.agg (stA13 s)) = some (stK s) := by
  obtain ⟨d, hd⟩ : ∃ d, Try.prog.types.size + 1 = d + 2 := ⟨Try.prog.types.size - 1, by have := size_st13; omega⟩
  have hf : (Value.agg (stA13 s)).formed Try.prog 75 = true := by
    simp [Value.formed, Try.underlying75, cells_st13, stA13]
  unfold keyOf
  rw [Try.underlying75]
  simp only [ktype_st13, hf, Bool.and_self, if_true, hd]
  rw [show (Value.agg (stA13 s)).cells.toList = [.int .i64 s.edge, .bool s.rev] from rfl, lits_st13 d _ _ h]
  rfl
set_option maxRecDepth 100000 in
theorem keyOf_st_inv {v : Value} {kl : Lit} (h : keyOf Try.prog 75 v = some kl) : ∃ s, v = .agg (stA13 s) ∧ wfS s ∧ kl = stK s := by
  have kI : Try.prog.cellsOf 3 = 1 := by kernel_rfl
  have kB : Try.prog.cellsOf 4 = 1 := by kernel_rfl
  have h0 := h
  obtain ⟨d, hd⟩ : ∃ d, Try.prog.types.size + 1 = d + 2 := ⟨Try.prog.types.size - 1, by have := size_st13; omega⟩
  unfold keyOf at h
  rw [Try.underlying75] at h
  simp only [ktype_st13, Bool.true_and, hd] at h
  split at h
  · rename_i hf
    cases v with
    | agg cs =>
      simp [Value.formed, Try.underlying75, cells_st13] at hf
      obtain ⟨cl⟩ := cs
      match cl, hf with
      | [v0, v1], _ =>
        have he : (Value.agg #[v0, v1]).cells.toList = [v0, v1] := rfl
        rw [he] at h
        simp only [Program.keyLits, Try.underlying75, cells_st13, List.length_cons, List.length_nil] at h
        cases v0 with
        | int k n =>
          cases v1 with
          | bool c =>
            by_cases hw : k = .i64 ∧ (Lit.int .i64 n).wf = true
            · simp [Try.underlying3, Try.underlying4, kI, kB, hw] at h
              obtain ⟨rfl, hw⟩ := hw
              exact ⟨⟨n, c⟩, rfl, hw, h.symm⟩
            · simp [Try.underlying3, Try.underlying4, kI, kB, hw] at h
          | _ => simp [Try.underlying3, Try.underlying4, kI, kB] at h
        | _ => simp [Try.underlying3, Try.underlying4, kI, kB] at h
    | _ => simp [Value.formed, Try.underlying75] at hf
  · cases h
theorem stK_inj {a b : St3} (ha : wfS a) (hb : wfS b) (h : stK a = stK b) : a = b := by
  have := keyed13.inj (keyOf_st ha) (by rw [h]; exact keyOf_st hb)
  obtain ⟨a1, a2⟩ := a
  obtain ⟨b1, b2⟩ := b
  unfold stA13 at this
  simp at this
  obtain ⟨rfl, rfl⟩ := this
  rfl
theorem stK_key {a : St3} (ha : wfS a) : WideAt.IsKeyLit (stK a) := keyed13.key (keyOf_st ha)
theorem stK_same {a b : St3} (ha : wfS a) (hb : wfS b) : (stK a).sameKey (stK b) = eqS a b := by
  cases h : (stK a).sameKey (stK b) with
  | true =>
    have := stK_inj ha hb (WideAt.sameKey_eq h)
    exact ((eqS_iff a b).2 this).symm
  | false =>
    cases h2 : eqS a b with
    | false => rfl
    | true =>
      rw [eqS_iff] at h2
      subst h2
      rw [WideAt.sameKey_self (stK_key ha)] at h
      cases h
theorem wfS_of {t : Tp3} {s : St3} (h : edgeB t s.edge = true) (hl : t.edges.length ≤ 100) : wfS s := by
  unfold edgeB at h
  simp only [Bool.and_eq_true, decide_eq_true_eq] at h
  show (decide (IntKind.i64.min ≤ s.edge) && decide (s.edge ≤ IntKind.i64.max)) = true
  rw [Bool.and_eq_true, decide_eq_true_eq, decide_eq_true_eq]
  exact (show -9223372036854775808 ≤ s.edge ∧ s.edge ≤ 9223372036854775807 by omega)

/-- A set of steps: p says which. -/
structure SetM (D : DataW Unit) (p : St3 → Bool) : Prop where
  map : IsMap D
  tr : ∀ kl, D.atKey kl (.lit (.bool false)) = .lit (.bool (has D kl))
  mem : ∀ x, wfS x → has D (stK x) = p x
theorem SetM.empty : SetM (.map []) fun _ => false := ⟨Go.Maps.isMap_empty, fun _ => rfl, fun _ _ => rfl⟩
theorem SetM.put {D : DataW Unit} {p : St3 → Bool} (h : SetM D p) {y : St3} (hy : wfS y) : SetM (D.put (stK y) (.lit (.bool true))) fun x => p x || eqS y x := by
  refine ⟨h.map.put _ _, fun kl => ?_, fun x hx => ?_⟩
  · by_cases e : kl = stK y
    · subst e
      rw [Go.Maps.atKey_put_same h.map (stK_key hy), Go.Maps.has_put_same h.map (stK_key hy)]
    · rw [Go.Maps.atKey_put_other e, Go.Maps.has_put_other e, h.tr]
  · by_cases e : y = x
    · subst e
      rw [Go.Maps.has_put_same h.map (stK_key hy), (eqS_iff _ _).2 rfl, Bool.or_true]
    · have e2 : eqS y x = false := by
        cases h2 : eqS y x with
        | false => rfl
        | true => exact absurd ((eqS_iff _ _).1 h2) e
      rw [Go.Maps.has_put_other (fun he => e (stK_inj hy hx he.symm)), h.mem x hx, e2, Bool.or_false]
theorem SetM.is {D : DataW Unit} {p q : St3 → Bool} (h : SetM D p) (e : ∀ x, p x = q x) : SetM D q := ⟨h.map, h.tr, fun x hx => by rw [h.mem x hx, e]⟩
end Go.Proofs.Yteioefgckigbcaa
