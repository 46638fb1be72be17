/-
  odo: what each of its functions answers, for whatever doubles; nothing that was there has turned.
-/
import Derived.Test.YtidokfbjfdkfdaaOdoMid2
namespace Go.Proofs.Ytidokfbjfdkfdaa
open Go.RowKit Fl
attribute [local irreducible] N E mval top U

theorem odo_whole (x : Nat) (hw : (Lit.float .f64 x).wf = true) (w : World) :
    Calls Try.prog 11 #[.float .f64 x] w fun e w' => e = .returned (pair (wholeF x)) ∧ Below w.heap.size w w' :=
  (owhole_any x hw w).mono fun _ _ ⟨h1, h2⟩ => ⟨h1, h2 ▸ Below.refl _ _⟩
theorem odo_between (x o : Nat) (wx : (Lit.float .f64 x).wf = true) (wo : (Lit.float .f64 o).wf = true) (w : World) :
    Calls Try.prog 13 #[.float .f64 x, .float .f64 o] w fun e w' => e = .returned (triple (betF x o)) ∧ Below w.heap.size w w' := obet_any x o wx wo w
theorem odo_less (x y : Nat) (wx : (Lit.float .f64 x).wf = true) (wy : (Lit.float .f64 y).wf = true) (w : World) :
    Calls Try.prog 15 #[.float .f64 x, .float .f64 y] w fun e w' => e = .returned (.bool (lessB x y)) ∧ Below w.heap.size w w' :=
  (oless_any x y wx wy w).mono fun _ _ ⟨h1, h2⟩ => ⟨h1, h2 ▸ Below.refl _ _⟩
theorem odo_lessq (x y : Nat) (wx : (Lit.float .f64 x).wf = true) (wy : (Lit.float .f64 y).wf = true) (w : World) :
    Calls Try.prog 15 #[.float .f64 x, .float .f64 y] w fun e w' => e = .returned (.bool (lessB x y)) ∧ ∃ q, w' = w.drewN q :=
  (oless_any x y wx wy w).mono fun _ _ ⟨h1, h2⟩ => ⟨h1, 0, h2.symm⟩
theorem odo_same (x y : Nat) (wx : (Lit.float .f64 x).wf = true) (wy : (Lit.float .f64 y).wf = true) (w : World) :
    Calls Try.prog 17 #[.float .f64 x, .float .f64 y] w fun e w' => e = .returned (.bool (sameB x y)) ∧ Below w.heap.size w w' :=
  (osame_any x y wx wy w).mono fun _ _ ⟨h1, h2⟩ => ⟨h1, h2 ▸ Below.refl _ _⟩
theorem odo_sort (A : Option Addr) (n c : Nat) (l : List Nat) (w : World) (hl : SlF w A n c l) (hn : n ≤ 65536) :
    Calls Try.prog 20 #[.slice A n c] w fun e w' => ∃ A' c', e = .returned (.slice A' n c') ∧ SlF w' A' n c' (sortOf l) ∧ Below w.heap.size w w' :=
  (osort_any A n c l w hl hn).mono fun _ _ ⟨A', c', h1, h2, h3⟩ => ⟨A', c', h1, ⟨by rw [sort_length]; exact hl.len, sort_wf hl.wf, own_sl h2⟩, h3⟩
theorem odo_clean (A : Option Addr) (n c : Nat) (l : List Nat) (w : World) (hl : SlF w A n c l) (hn : n ≤ 65536) :
    Calls Try.prog 22 #[.slice A n c] w fun e w' => ∃ A' c', e = .returned (.slice A' (cleanOf l).length c') ∧ SlF w' A' (cleanOf l).length c' (cleanOf l) ∧ Below w.heap.size w w' :=
  (oclean_any A n c l w hl hn).mono fun _ _ ⟨A', c', h1, h2, h3⟩ => ⟨A', c', h1, ⟨rfl, clean_wf hl.wf, own_sl h2⟩, h3⟩
theorem odo_middle (A : Option Addr) (n c : Nat) (l : List Nat) (w : World) (hl : SlF w A n c l) (hn : n ≤ 65536) :
    Calls Try.prog 24 #[.slice A n c] w fun e w' => e = .returned (midV (middleOf l)) ∧ Below w.heap.size w w' := omid_any A n c l w hl hn
end Go.Proofs.Ytidokfbjfdkfdaa
