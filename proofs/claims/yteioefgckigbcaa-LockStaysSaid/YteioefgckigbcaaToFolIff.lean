/-
  package topo as landed: what follows a step is what the track's joints say.
-/
import Derived.Test.YteioefgckigbcaaToFol

namespace Go.Proofs.Yteioefgckigbcaa

theorem fol_iff {t : Tp3} {s x : St3} : folB t s x = true ↔ x ∈ afterL t s := by
  have key : ∀ j : Jt3, folJ t s x j = true ↔ (edgeB t s.edge = true ∧ edgeB t x.edge = true ∧ joinJ (outE s) (inE x) j = true) := by
    rintro ⟨⟨a1, a2⟩, ⟨b1, b2⟩⟩
    obtain ⟨se, sr⟩ := s
    obtain ⟨xe, xr⟩ := x
    unfold folJ connB endB joinJ lvS enS outE inE
    simp only [Bool.and_eq_true, Bool.or_eq_true, beq_iff_eq, eqS_iff, eqE_iff, Prod.mk.injEq, St3.mk.injEq]
    constructor
    · rintro ⟨⟨⟨ha, ha2⟩, ⟨hb, hb2⟩⟩, (⟨⟨rfl, rfl⟩, ⟨rfl, rfl⟩⟩ | ⟨⟨rfl, rfl⟩, ⟨rfl, rfl⟩⟩)⟩
      · refine ⟨ha, hb, .inl ⟨⟨rfl, ?_⟩, ⟨rfl, ?_⟩⟩⟩
        · rcases ha2 with rfl | rfl <;> simp
        · rcases hb2 with rfl | rfl <;> simp
      · refine ⟨hb, ha, .inr ⟨⟨rfl, ?_⟩, ⟨rfl, ?_⟩⟩⟩
        · rcases ha2 with rfl | rfl <;> simp
        · rcases hb2 with rfl | rfl <;> simp
    · rintro ⟨h1, h2, (⟨⟨rfl, rfl⟩, ⟨rfl, rfl⟩⟩ | ⟨⟨rfl, rfl⟩, ⟨rfl, rfl⟩⟩)⟩
      · refine ⟨⟨⟨h1, ?_⟩, ⟨h2, ?_⟩⟩, .inl ⟨⟨rfl, ?_⟩, ⟨rfl, ?_⟩⟩⟩ <;> first | (cases sr <;> simp; done) | (cases xr <;> simp; done)
      · refine ⟨⟨⟨h2, ?_⟩, ⟨h1, ?_⟩⟩, .inr ⟨⟨rfl, ?_⟩, ⟨rfl, ?_⟩⟩⟩ <;> first | (cases sr <;> simp; done) | (cases xr <;> simp; done)
  rw [after_mem]
  unfold folB mayT joinB
  rw [List.any_eq_true, List.any_eq_true]
  constructor
  · rintro ⟨j, hj, h⟩
    obtain ⟨h1, h2, h3⟩ := (key j).1 h
    exact ⟨h1, h2, j, hj, h3⟩
  · rintro ⟨h1, h2, j, hj, h3⟩
    exact ⟨j, hj, (key j).2 ⟨h1, h2, h3⟩⟩
end Go.Proofs.Yteioefgckigbcaa
