/-
  linesidelaw10.ShakeMakes, over integer literals.
-/
import Derived.Test.YtekcnmimfhiblaaLawShakeMakes
namespace Go.Proofs.Ytekcnmimfhiblaa
open Go.RowKit
open Go.Great

theorem shakeMakes_walk (p : Peer) (q : Pdu) (A : Option Addr) (c : Nat) (n : Int) (w : World) (hp : p.ok) (hk : q.ok) (hm : q.body.length ≤ maxLen) (_hc : q.body.length ≤ c) (hs : Sl w 1 A q.body.length c (u8s q.body)) (w_n : (Lit.int .u32 n).wf = true) :
    Calls Try.prog 3 #[prV p, pdV q A c, .int .u32 n] w fun e w' => e = .returned (.bool true) ∧ Below w.heap.size w w' := by
  obtain ⟨n, rfl, u_w_n⟩ := u32_nat w_n
  exact shakeMakes_at p q A c n w hp hk hm hs u_w_n
end Go.Proofs.Ytekcnmimfhiblaa
