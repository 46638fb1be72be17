/-
  slices.Clone of a slice of doubles; the sort's question; package sort's stable_func at none or one.
-/
import Derived.Test.YtidokfbjfdkfdaaOdoUniq
import Derived.Test.YtidokfbjfdkfdaaOdoClean2
import Derived.Deep.QuietTactic
import Derived.WalkSpells
namespace Go.Proofs.Ytidokfbjfdkfdaa
open Go.RowKit Fl Go.Sort Go.Lib
attribute [local irreducible] N E mval top U

set_option maxHeartbeats 2000000 in
theorem clone_any (A : Option Addr) (n c : Nat) (l : List Nat) (w : World) (hl : SlF w A n c l) (hn : n ≤ 65536) :
    Calls Try.prog 35 #[.slice A n c] w fun e w' => ∃ A' c', e = .returned (.slice A' n c') ∧ OwF w.heap.size w' A' n c' l ∧ Below w.heap.size w w' := by
  have hll := hl.len
  cases hA : A with
  | none =>
    subst hA
    obtain ⟨h0, hc0⟩ := hl.sl.2.1 rfl
    subst h0; subst hc0
    have e0 : l = [] := List.eq_nil_of_length_eq_zero hll
    subst e0
    have HO0 : Hid (OwF w.heap.size w none 0 0 []) := hid (World.ownsRow_nil w w.heap.size 22 1)
    have q1 := fun w : World => Lib.run_eql_slice_nil (P := Try.prog) w 31 22 none 0 0 0 0 Try.underlying31
    simp only [Option.isNone] at q1
    clear hl hll
    go_enter Try.func35, Try.ntmps35
    go_wp2
    go_ret
    exact ⟨none, 0, rfl, HO0.out, Below.refl _ _⟩
  | some ad =>
    subst hA
    have HSL := hid (hl.sl.beside (.cells #[] 22))
    have HO := hid (World.ownsRow_lit (base := w.heap.size) (e := 22) (size := 1) w #[] 0 (Nat.le_refl _) (by unfold maxLen; omega) rfl)
    have H1 : Hid (∀ u ∈ flts l, u.oneCell' = true) := hid (flts_one l)
    have HB : Hid (0 + n ≤ maxLen ∧ (0 + n) * 8 ≤ 140737488355328 ∧ w.heap.size ≤ (w.alloc (.cells #[] 22)).heap.size) := hid ⟨by unfold maxLen; omega, by omega, by simp⟩
    have HBL : Hid (Below w.heap.size w (w.alloc (.cells #[] 22))) := hid ((Below.refl _ _).alloc (Nat.le_refl _) _)
    have q1 := fun w : World => Lib.run_eql_slice_nil (P := Try.prog) w 31 22 (some ad) n c 0 0 Try.underlying31
    simp only [Option.isNone] at q1
    clear hl hll
    go_enter Try.func35, Try.ntmps35
    go_wp2_with (with_reducible refine wpList_pour (o := ⟨some 7, _, _, _, _, _⟩) rfl (.tmp 5) (.tmp 6) 31 rfl w.heap.size 22 (.float .f64 0) 1 8 Try.underlying31 info_f64 ?hz (by decide) (some ⟨w.heap.size, 0, none⟩) 0 0 [] ?hs HO (some ad) n c (flts l) ?hx HSL H1 HB ?next)
    case next =>
      intro A4 c4 w4 ho4 hg4
      go_wp2
      go_ret
      exact ⟨A4, c4, rfl, ho4.out, below_own HBL.out HB.out.2.2 HO.out (Nat.le_refl _) rfl hg4.out⟩

set_option maxHeartbeats 2000000 in
theorem sortless_any (blk n c B : Nat) (W : World) (G : Nat → Nat) (hs : W.cell? ⟨B, 0, none⟩ = some (.slice (some ⟨blk, 0, none⟩) n c)) (hn : n ≤ 65536)
    (hc : ∀ t, t < n → W.cell? ⟨blk, t, none⟩ = some (.float .f64 (G t)) ∧ (Lit.float .f64 (G t)).wf = true) (i j : Nat) (hi : i < n) (hj : j < n) :
    Calls Try.prog 37 #[.int .i64 i, .int .i64 j, .pointer (some ⟨B, 0, none⟩)] W fun e w' => e = .returned (.bool (lessB (G i) (G j))) ∧ ∃ q, w' = W.drewN q := by
  obtain ⟨ci, wi⟩ := hc i hi
  obtain ⟨cj, wj⟩ := hc j hj
  have HL := hid (fun w => oless_any (G i) (G j) wi wj w)
  generalize lessB (G i) (G j) = v at *
  generalize G i = x at *
  generalize G j = y at *
  have x1 : (i : Int) < n := by omega
  have x2 : (j : Int) < n := by omega
  have x3 : (0 : Int) ≤ i := by omega
  have x4 : (0 : Int) ≤ j := by omega
  clear hc wi wj
  go_enter Try.func37, Try.ntmps37
  go_wp2_with fail
  go_quiet ((go_at_call 15; exact Calls.quiet_of_same ((HL.out _).mono fun _ _ h => ⟨h.1, h.2.symm⟩)))
  go_wp2
  go_ret
  exact ⟨rfl, nq, rfl⟩

set_option maxHeartbeats 2000000 in
set_option maxRecDepth 100000 in
theorem ins_tiny (g : Nat) (lb : Array Value) (sf : Nat) (sb : Array Value) (n : Nat) (hn : n ≤ 1) (W : World) :
    Calls Try.prog 61 #[.agg #[.func (.func g) #[] lb, .func (.func sf) #[] sb], .int .i64 0, .int .i64 n] W fun e w' => e = .returned (.tuple #[]) ∧ Below W.heap.size W w' := by
  have HB : Hid (Below W.heap.size W (W.alloc (.cells #[.func (.func g) #[] lb, .func (.func sf) #[] sb] 54))) := hid ((Below.refl _ _).alloc (Nat.le_refl _) _)
  have x1 : ¬ (1 : Int) < n := by omega
  go_enter Try.func61, Try.ntmps61
  go_wp2
  go_loopg [6] 1 (fun kk vi wr => vi = .int .i64 1 ∧ wr = W.alloc (.cells #[.func (.func g) #[] lb, .func (.func sf) #[] sb] 54))
  case atStart => exact ⟨rfl, rfl⟩
  case round =>
    obtain ⟨rfl, hw⟩ := hrel
    have HW := hid hw; clear hw
    go_wp2
    go_end0
    exact ⟨rfl, by rw [HW.out]; exact HB.out⟩
set_option maxHeartbeats 2000000 in
set_option maxRecDepth 100000 in
theorem stable_tiny (g : Nat) (lb : Array Value) (sf : Nat) (sb : Array Value) (n : Nat) (hn : n ≤ 1) (W : World) :
    Calls Try.prog 48 #[.agg #[.func (.func g) #[] lb, .func (.func sf) #[] sb], .int .i64 n] W fun e w' => e = .returned (.tuple #[]) ∧ Below W.heap.size W w' := by
  have HB : Hid (Below W.heap.size W (W.alloc (.cells #[.func (.func g) #[] lb, .func (.func sf) #[] sb] 54))) := hid ((Below.refl _ _).alloc (Nat.le_refl _) _)
  have hi := fun W => ins_tiny g lb sf sb n hn W
  have x1 : ¬ (20 : Int) ≤ n := by omega
  have x2 : ¬ (20 : Int) < n := by omega
  have HI := hid hi; clear hi
  go_enter Try.func48, Try.ntmps48
  go_wp2
  go_loopg [5, 6] 1 (fun kk va vb wr => va = .int .i64 0 ∧ vb = .int .i64 20 ∧ wr = W.alloc (.cells #[.func (.func g) #[] lb, .func (.func sf) #[] sb] 54))
  case atStart => exact ⟨rfl, rfl, rfl⟩
  case round =>
    obtain ⟨rfl, rfl, hw⟩ := hrel
    have c0 : wr.cell? ⟨W.heap.size, 0, none⟩ = some (.func (.func g) #[] lb) := by rw [hw]; simp
    have c1 : wr.cell? ⟨W.heap.size, 1, none⟩ = some (.func (.func sf) #[] sb) := by rw [hw]; simp
    have HW := hid hw; clear hw
    go_wp2_with fail
    refine (HI.out _).mono ?_
    rintro e w1 ⟨rfl, hb⟩
    have HB1 : Hid (Below W.heap.size W w1) := hid (HB.out.trans (HW.out ▸ hb.mono (by rw [HW.out]; simp)))
    obtain ⟨w5, h5⟩ : ∃ w5, w5 = wr := ⟨_, rfl⟩
    subst h5
    clear hb
    obtain ⟨gk5, h5⟩ : ∃ gk5, gk5 = gk := ⟨_, rfl⟩
    subst h5
    go_wp2
    go_loopg [4] 1 (fun kk vs wr => vs = .int .i64 20 ∧ wr = w1)
    case atStart => exact ⟨rfl, rfl⟩
    case round =>
      obtain ⟨rfl, hw⟩ := hrel
      have HW2 := hid hw; clear hw
      go_wp2
      go_end0
      exact ⟨rfl, by rw [HW2.out]; exact HB1.out⟩
end Go.Proofs.Ytidokfbjfdkfdaa
