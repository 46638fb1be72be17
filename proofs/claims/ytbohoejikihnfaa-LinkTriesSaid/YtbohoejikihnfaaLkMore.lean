/-
  link: small words more on waits in memory; how many there are.
-/
import Derived.Test.YtbohoejikihnfaaLkMem

namespace Go.Proofs.Ytbohoejikihnfaa

open Go.RowKit

theorem cellsW_one {l : List (W0 × Value)} (h : ∀ p ∈ l, p.2.oneCell' = true) : ∀ u ∈ cellsW l, u.oneCell' = true := by
  intro u hu
  obtain ⟨p, hp, hu⟩ := List.mem_flatMap.1 hu
  simp only [wtC, List.mem_cons, List.not_mem_nil, or_false] at hu
  rcases hu with rfl | rfl | rfl | rfl
  · rfl
  · rfl
  · rfl
  · exact h p hp
theorem sl_set12 {W : World} {s g i n c : Nat} {A : Option Addr} {vs : List Value} (h : Sl W s A n c vs) (hne : ∀ a, A = some a → 0 < n → a.block ≠ g) (u : Value) : Sl (W.setCell ⟨g, i, none⟩ u) s A n c vs := by
  rcases Nat.eq_zero_or_pos n with h0 | hn0
  · refine ⟨h.1, h.2.1, fun ad ha j v hv => ?_⟩
    have h1 := (List.getElem?_eq_some_iff.1 hv).1
    rw [h.1, h0] at h1
    omega
  refine ⟨h.1, h.2.1, fun ad ha j v hv => ?_⟩
  have h0 := h.2.2 ad ha j v hv
  rw [World.cell?_of_block (w := W) (by rw [add_block11]; exact Below.heap_setCell W ⟨g, i, none⟩ u ad.block (hne ad ha hn0))]
  exact h0
theorem BodyR.set {P : Nat → Prop} {W : World} {v : Value} {xs : List Nat} {g i : Nat} (h : BodyR P W v xs) (hg : ¬ P g) (u : Value) : BodyR P (W.setCell ⟨g, i, none⟩ u) v xs := by
  obtain ⟨A, c, e, hs, h8, hp⟩ := h
  exact ⟨A, c, e, sl_set12 hs (fun a ha h0 e' => hg (by rw [← e']; exact hp a ha h0)) u, h8, hp⟩
theorem WsR.set {P : Nat → Prop} {W : World} {A : Option Addr} {n c : Nat} {ws : List W0} {g i : Nat} (h : WsR P W A n c ws) (hg : ¬ P g) (u : Value) : WsR P (W.setCell ⟨g, i, none⟩ u) A n c ws := by
  obtain ⟨l, h1, h2, h3, h4⟩ := h
  exact ⟨l, h1, h2, ⟨sl_set12 h3.1 (fun a ha h0 e' => hg (by rw [← e']; exact h3.2 a ha h0)) u, h3.2⟩, fun p hp => (h4 p hp).set hg u⟩
theorem light_len {l : L0} (h : lightL l = true) : l.ws.length ≤ 50 := by
  unfold lightL at h
  simp only [Bool.and_eq_true, decide_eq_true_eq] at h
  exact h.1
theorem insW_len (x : W0) (ws : List W0) : (insW x ws).length = ws.length + 1 := by
  induction ws with
  | nil => rfl
  | cons y r ih =>
    rw [insW]
    split
    · rfl
    · rw [List.length_cons, ih, List.length_cons]
theorem sent_len {l : L0} (h : l.ws.length ≤ 50) (t now : Int) (xs : List Nat) : (sentL l t now xs).ws.length ≤ 51 := by
  unfold sentL
  split
  · show (insW _ _).length ≤ 51
    rw [insW_len]; omega
  · exact Nat.zero_le _
theorem acked_len {l : L0} (h : l.ws.length ≤ 50) (t : Int) : (ackedL l t).ws.length ≤ 51 := by
  unfold ackedL
  split
  · show (l.ws.filter _).length ≤ 51
    have := List.length_filter_le (fun x => x.t != t) l.ws
    omega
  · exact Nat.zero_le _
theorem heard_len {l : L0} (h : l.ws.length ≤ 50) (now : Int) : (heardL l now).ws.length ≤ 51 := by
  unfold heardL
  split
  · show l.ws.length ≤ 51
    omega
  · exact Nat.zero_le _
theorem tick_len {l : L0} (h : l.ws.length ≤ 50) (now : Int) : (tickL l now).ws.length ≤ 51 ∧ (tickA l now).length ≤ 51 := by
  unfold tickL tickA
  split
  · split
    · exact ⟨by omega, Nat.zero_le _⟩
    · refine ⟨?_, ?_⟩
      · show (l.ws.map _).length ≤ 51
        rw [List.length_map]; omega
      · rw [List.length_map]
        have := List.length_filter_le (fun x => decide (x.due ≤ now)) l.ws
        omega
  · exact ⟨Nat.zero_le _, Nat.zero_le _⟩
end Go.Proofs.Ytbohoejikihnfaa
