/-
  linesidelaw10.ShakeSends, over integer literals.
-/
import Derived.Test.YtekcnmimfhiblaaLawShakeSends
namespace Go.Proofs.Ytekcnmimfhiblaa
open Go.RowKit
open Go.Great

theorem shakeSends_walk (p : Peer) (q : Pdu) (A : Option Addr) (c : Nat) (A2 : Option Addr) (n2 c2 : Nat) (xs : List Nat) (y : Int) (w : World) (hp : p.ok) (hk : q.ok) (hm : q.body.length ≤ maxLen) (_hc : q.body.length ≤ c) (hs : Sl w 1 A q.body.length c (u8s q.body)) (hin : InBody w A2 n2 c2 xs) (w_y : (Lit.int .u8 y).wf = true) :
    Calls Try.prog 4 #[prV p, pdV q A c, .slice A2 n2 c2, .int .u8 y] w fun e w' => e = .returned (.bool true) ∧ Below w.heap.size w w' := by
  obtain ⟨y, rfl, u_w_y⟩ : ∃ m : Nat, y = m ∧ m < 256 := by
    have hx : 0 ≤ y ∧ y ≤ 255 := by simpa [Lit.wf, IntKind.min, IntKind.max, IntKind.signed, IntKind.bits] using w_y
    exact ⟨y.toNat, by omega, by omega⟩
  exact shakeSends_at p q A c A2 n2 c2 xs y w hp hk hm hs hin u_w_y
end Go.Proofs.Ytekcnmimfhiblaa
