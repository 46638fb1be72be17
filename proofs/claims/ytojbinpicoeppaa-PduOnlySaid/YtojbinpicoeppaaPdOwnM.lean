/-
  package pdu as landed: May.
-/
import Derived.Test.YtojbinpicoeppaaPdLeaf
namespace Go.Proofs.Ytojbinpicoeppaa
open Go.RowKit
open Go.Great

set_option maxRecDepth 100000 in
set_option maxHeartbeats 4000000 in
theorem opd_may (p : Pdu) (A : Option Addr) (c : Nat) (hk : p.ok) (hn : p.body.length ≤ 2000) (w : World) :
    Calls Try.prog 14 #[pdV p A c] w fun e w' => e = .returned (.bool (decide (pdMay p))) ∧ Below w.heap.size w w' := by
  obtain ⟨kind, dir, train, a, b, body, mac⟩ := p
  obtain ⟨ha, hb, _, hmac⟩ := hk
  unfold pdV pdA
  simp only at ha hb hmac hn ⊢
  go_enter Try.func14, Try.ntmps14
  go_wp2
  all_goals go_ret
  all_goals refine ⟨congrArg (fun b => Ending.returned (Value.bool b)) (bool_dec ?_), (Below.refl _ _).alloc (Nat.le_refl _) _⟩
  all_goals simp only [beq_iff_eq, beq_eq_false_iff_ne, ne_eq, decide_eq_true_eq, Bool.false_eq_true, false_iff, pdMay, pdForm] at *
  all_goals (try simp only [true_and, true_or, or_true])
  all_goals omega
theorem wrapU9 {n : Nat} (h : n < 18446744073709551616) : IntKind.u64.wrap (n : Int) = (n : Int) := by
  rw [IntKind.wrap_u64]; omega
/-- bytesOf, in a world that grew from an elder one. -/
theorem opd_bytesU (W0 : World) (n m : Nat) (N M : Int) (hN : N = (n : Nat)) (hM : M = (m : Nat)) (hn : n < 18446744073709551616) (hm : m ≤ 8) (W : World) (hW : Below W0.heap.size W0 W) :
    Calls Try.prog 25 #[.int .u64 N, .int .i64 M] W fun e w' => ∃ A' c', e = .returned (.slice A' m c') ∧ Hid (w'.ownsRow W.heap.size 5 1 (.slice A' m c') m (u8s (beB n m))) ∧ Hid (Below W.heap.size W w') ∧ Below W0.heap.size W0 w' :=
  (opd_bytes n m N M hN hM hn hm W).mono fun _ _ ⟨A', c', h1, h2, h3⟩ => ⟨A', c', h1, h2, h3, hW.trans (h3.out.mono hW.size)⟩
/-- join of parts just gathered, in a world that grew from elder ones. -/
theorem opd_joinU (ps : List Part9) (n : Nat) (hn : ps.length = n) (h5 : n ≤ 5) (w wa W : World) (hwa : Below w.heap.size w wa) (hW : Below wa.heap.size wa W) (hp : PartsOk W ps) (cs : Array Value) (hcs : cs = (ps.map Part9.v).toArray) :
    Calls Try.prog 24 #[.slice (some ⟨W.heap.size, 0, none⟩) n n] (W.alloc (.cells cs 23)) fun e w' => ∃ A' c', e = .returned (.slice A' (cat9 ps).length c') ∧ Hid (w'.ownsRow w.heap.size 5 1 (.slice A' (cat9 ps).length c') (cat9 ps).length (u8s (cat9 ps))) ∧ Hid (Below w.heap.size w w') ∧ Below wa.heap.size wa w' := by
  subst hcs
  refine (opd_join ps W.heap.size _ (Has.made _ _ _) (hp.beside _) n hn h5).mono ?_
  rintro e w' ⟨A', c', h1, h2, h3⟩
  have h4 := hW.trans (((Below.refl _ _).alloc (Nat.le_refl _) _ : Below W.heap.size W (W.alloc (.cells (ps.map Part9.v).toArray 23))).mono hW.size)
  have h5 := h4.trans (h3.out.mono h4.size)
  refine ⟨A', c', h1, Lib.hid (own_lower h2.out (Nat.le_trans hwa.size h4.size)), Lib.hid (hwa.trans (h5.mono hwa.size)), h5⟩
end Go.Proofs.Ytojbinpicoeppaa
