/-
  Put and Get, whatever they are called with: one contract each; and what leaves a writer and a reader as they are.
-/
import Derived.Test.YthaonojcfmnjpaaBitsRead
namespace Go.Proofs.Ythaonojcfmnjpaa
open Go.RowKit
open BitsM

/-! Put -/
def putOk (bs : List Bool) (n k : Int) : Bool := decide (1 ≤ k ∧ k ≤ 32 ∧ 0 ≤ n ∧ n < ((2 ^ k.toNat : Nat) : Int) ∧ bs.length + k.toNat ≤ 8184)
def putE (bs : List Bool) (n k : Int) : Int := if 1 ≤ k ∧ k ≤ 32 ∧ 0 ≤ n ∧ n < ((2 ^ k.toNat : Nat) : Int) then (if bs.length + k.toNat ≤ 8184 then 0 else 2) else 1
def putB (bs : List Bool) (n k : Int) : List Bool := if putOk bs n k then bs ++ wbits n.toNat k.toNat k.toNat else bs
theorem putE_ok {bs : List Bool} {n k : Int} : putE bs n k = 0 ↔ putOk bs n k = true := by
  unfold putE putOk
  rw [decide_eq_true_eq]
  split <;> rename_i h
  · split <;> rename_i h2
    · exact ⟨fun _ => ⟨h.1, h.2.1, h.2.2.1, h.2.2.2, h2⟩, fun _ => rfl⟩
    · exact ⟨fun e => by simp at e, fun e => absurd e.2.2.2.2 h2⟩
  · constructor
    · intro e; simp at e
    · intro e; exact absurd ⟨e.1, e.2.1, e.2.2.1, e.2.2.2.1⟩ h
theorem putB_ok {bs : List Bool} {n k : Int} (h : putE bs n k = 0) : putB bs n k = bs ++ wbits n.toNat k.toNat k.toNat := by
  unfold putB; rw [if_pos (putE_ok.1 h)]
theorem putB_no {bs : List Bool} {n k : Int} (h : putE bs n k ≠ 0) : putB bs n k = bs := by
  unfold putB; rw [if_neg (fun e => h (putE_ok.2 e))]

theorem put_any (g : Nat) (bs : List Bool) (n k : Int) (w : World) (hw : IsW w g bs) :
    Calls Try.prog 12 #[.pointer (some ⟨g, 0, none⟩), .int .i64 n, .int .i64 k] w fun e w' =>
      e = .returned (.int .i64 (putE bs n k)) ∧ IsW w' g (putB bs n k) ∧ w.grownBy w' (some g) := by
  by_cases h1 : 1 ≤ k ∧ k ≤ 32
  · by_cases h2 : 0 ≤ n ∧ n < ((2 ^ k.toNat : Nat) : Int)
    · by_cases h3 : bs.length + k.toNat ≤ 8184
      · have e1 : putE bs n k = 0 := by unfold putE; rw [if_pos ⟨h1.1, h1.2, h2.1, h2.2⟩, if_pos h3]
        rw [putB_ok e1, e1]
        have en : ((n.toNat : Nat) : Int) = n := by omega
        have ek : ((k.toNat : Nat) : Int) = k := by omega
        have h := put_fits g bs n.toNat k.toNat (by omega) (by omega) (by omega) w hw h3
        rw [en, ek] at h
        exact h
      · have e1 : putE bs n k = 2 := by unfold putE; rw [if_pos ⟨h1.1, h1.2, h2.1, h2.2⟩, if_neg h3]
        rw [putB_no (by rw [e1]; decide), e1]
        exact (put_full g bs n k h1.1 h1.2 h2.1 h2.2 w hw (by omega)).mono fun e w' ⟨he, hww⟩ => ⟨he, hww ▸ hw, hww ▸ only_refl _ _⟩
    · have e1 : putE bs n k = 1 := by unfold putE; rw [if_neg (fun h => h2 ⟨h.2.2.1, h.2.2.2⟩)]
      rw [putB_no (by rw [e1]; decide), e1]
      by_cases h3 : n < 0
      · exact (put_low _ n k h1.1 h1.2 h3 w).mono fun e w' ⟨he, hww⟩ => ⟨he, hww ▸ hw, hww ▸ only_refl _ _⟩
      · exact (put_high _ n k h1.1 h1.2 (by omega) w).mono fun e w' ⟨he, hww⟩ => ⟨he, hww ▸ hw, hww ▸ only_refl _ _⟩
  · have e1 : putE bs n k = 1 := by unfold putE; rw [if_neg (fun h => h1 ⟨h.1, h.2.1⟩)]
    rw [putB_no (by rw [e1]; decide), e1]
    exact (put_wide _ n k (by omega) w).mono fun e w' ⟨he, hww⟩ => ⟨he, hww ▸ hw, hww ▸ only_refl _ _⟩

theorem IsW.keep {w w' : World} {g : Nat} {bs : List Bool} {row : Option Nat} (h : IsW w g bs) (hg : w.grownBy w' row) (hne : some g ≠ row) : IsW w' g bs := ⟨h.1, h.2.grow hg hne⟩
theorem IsW.under {w w' : World} {g B : Nat} {bs : List Bool} (h : IsW w g bs) (hb : Below B w w') (hB : w.heap.size ≤ B) : IsW w' g bs := ⟨h.1, h.2.under hb (by have := h.2.lt; omega)⟩
theorem IsW.draws {w : World} {g : Nat} {bs : List Bool} (h : IsW w g bs) (n : Nat) : IsW (w.drewN n) g bs := h

/-! Get -/
def gotOk (xs : List Nat) (p : Nat) (k : Int) : Bool := decide (1 ≤ k ∧ k ≤ 32 ∧ p + k.toNat ≤ 8 * xs.length)
def gotE (xs : List Nat) (p : Nat) (k : Int) : Int := if 1 ≤ k ∧ k ≤ 32 then (if p + k.toNat ≤ 8 * xs.length then 0 else 10) else 1
def gotN (xs : List Nat) (p : Nat) (k : Int) : Nat := if gotOk xs p k then num (bitsFrom xs p k.toNat) else 0
def gotP (xs : List Nat) (p : Nat) (k : Int) : Nat := if gotOk xs p k then p + k.toNat else p
theorem got_yes {xs : List Nat} {p : Nat} {k : Int} (h1 : 1 ≤ k) (h2 : k ≤ 32) (h : p + k.toNat ≤ 8 * xs.length) :
    gotE xs p k = 0 ∧ gotN xs p k = num (bitsFrom xs p k.toNat) ∧ gotP xs p k = p + k.toNat := by
  have e : gotOk xs p k = true := decide_eq_true ⟨h1, h2, h⟩
  unfold gotE gotN gotP
  rw [if_pos e, if_pos e, if_pos ⟨h1, h2⟩, if_pos h]
  exact ⟨rfl, rfl, rfl⟩
theorem got_short {xs : List Nat} {p : Nat} {k : Int} (h1 : 1 ≤ k) (h2 : k ≤ 32) (h : 8 * xs.length < p + k.toNat) :
    gotE xs p k = 10 ∧ gotN xs p k = 0 ∧ gotP xs p k = p := by
  have e : ¬ gotOk xs p k = true := fun e => by have := of_decide_eq_true e; omega
  unfold gotE gotN gotP
  rw [if_neg e, if_neg e, if_pos ⟨h1, h2⟩, if_neg (by omega)]
  exact ⟨rfl, rfl, rfl⟩
theorem got_wide {xs : List Nat} {p : Nat} {k : Int} (h : k < 1 ∨ 32 < k) :
    gotE xs p k = 1 ∧ gotN xs p k = 0 ∧ gotP xs p k = p := by
  have e : ¬ gotOk xs p k = true := fun e => by have := of_decide_eq_true e; omega
  unfold gotE gotN gotP
  rw [if_neg e, if_neg e, if_neg (by omega)]
  exact ⟨rfl, rfl, rfl⟩
theorem gotP_le {xs : List Nat} {p : Nat} {k : Int} (hp : p ≤ 8 * xs.length) : p ≤ gotP xs p k ∧ gotP xs p k ≤ 8 * xs.length := by
  unfold gotP
  split
  · rename_i h
    have := of_decide_eq_true h
    omega
  · omega

theorem get_any (g : Nat) (xs : List Nat) (p : Nat) (k : Int) (w : World) (hr : IsR w g xs p) :
    Calls Try.prog 19 #[.pointer (some ⟨g, 0, none⟩), .int .i64 k] w fun e w' =>
      e = .returned (.tuple #[.int .i64 (gotN xs p k : Nat), .int .i64 (gotE xs p k)]) ∧ IsR w' g xs (gotP xs p k) ∧ w.grownBy w' (some g) := by
  by_cases h1 : 1 ≤ k ∧ k ≤ 32
  · by_cases h : p + k.toNat ≤ 8 * xs.length
    · obtain ⟨e1, e2, e3⟩ := got_yes h1.1 h1.2 h
      rw [e1, e2, e3]
      have hc := get_fits g xs p k.toNat (by omega) (by omega) w hr h
      rw [show ((k.toNat : Nat) : Int) = k from by omega] at hc
      exact hc
    · obtain ⟨e1, e2, e3⟩ := got_short h1.1 h1.2 (show 8 * xs.length < p + k.toNat by omega)
      rw [e1, e2, e3]
      exact (get_short g xs p k h1.1 h1.2 w hr (by omega)).mono fun e w' ⟨he, m, hm⟩ => ⟨he, hm ▸ isR_draws hr m, hm ▸ only_draws (only_refl _ _) m⟩
  · obtain ⟨e1, e2, e3⟩ := got_wide (xs := xs) (p := p) (k := k) (by omega)
    rw [e1, e2, e3]
    exact (get_wide _ k (by omega) w).mono fun e w' ⟨he, hw⟩ => ⟨he, hw ▸ hr, hw ▸ only_refl _ _⟩

/-- Another reader's block is none of this one's. -/
theorem IsR.keep {w w' : World} {g g' : Nat} {xs ys : List Nat} {p q : Nat} (h : IsR w g xs p) (h' : IsR w g' ys q) (hne : g ≠ g') (hg : w.grownBy w' (some g')) : IsR w' g xs p := by
  obtain ⟨g2, h2, ha, hb, r⟩ := h
  obtain ⟨_, _, ha', _⟩ := h'
  have hne2 : g2 ≠ g' := hb.other ha' (by decide)
  exact ⟨g2, h2, ha.grow hg (by simpa using hne), hb.grow hg (by simpa using hne2), r⟩
theorem IsR.beside {w w' : World} {g g' : Nat} {xs : List Nat} {p : Nat} {t : TypeId} {cs : Array Value} (h : IsR w g xs p) (h' : Has w g' t cs) (h1 : t ≠ 56) (h2 : t ≠ 5) (hg : w.grownBy w' (some g')) : IsR w' g xs p := by
  obtain ⟨g2, hn, ha, hb, r⟩ := h
  exact ⟨g2, hn, ha.grow hg (by simpa using ha.other h' (fun e => h1 e.symm)), hb.grow hg (by simpa using hb.other h' (fun e => h2 e.symm)), r⟩
theorem bitsFrom_add (xs : List Nat) (p a b : Nat) : bitsFrom xs p (a + b) = bitsFrom xs p a ++ bitsFrom xs (p + a) b := by
  unfold bitsFrom
  rw [List.range_add, List.map_append, List.map_map]
  congr 1
  apply List.map_congr_left
  intro i _
  simp [Nat.add_assoc]

end Go.Proofs.Ythaonojcfmnjpaa
