/-
  linesidelaw10: PDUs of one kind are as themselves.
-/
import Derived.Test.YtekcnmimfhiblaaLawAwake10
import Derived.Test.YtekcnmimfhiblaaOpenPd
import Derived.Deep.DeepCutAuto
namespace Go.Proofs.Ytekcnmimfhiblaa
open Go.RowKit
open Go.Great

/-- Is this the operation that writes slot d? (An arm begins so: where it is another one, it fails at once.) -/
theorem at_slot9 {P : Program} {ops : Array Oper} {rest : List Oper} {a : Act} {w : World} {Q : Exit → Act → World → Prop} (d : Nat) {op : Op} {ty : TypeId} {pos : String} {after : Array Edge} {guard : Option (Nat × Bool)} (h : wpList P ops Q (⟨some d, op, ty, pos, after, guard⟩ :: rest) a w) : wpList P ops Q (⟨some d, op, ty, pos, after, guard⟩ :: rest) a w := h
theorem sl_empty9 {q : Pdu} (h : q.body = []) (W : World) : Sl W 1 none q.body.length 0 (u8s q.body) := by
  rw [h]; exact sl_nil _ _
theorem same_any9 (q : Pdu) (A B : Option Addr) (c d : Nat) (h8 : bytes8 q.body) (W : World) (hs : Sl W 1 A q.body.length c (u8s q.body)) (ht : Sl W 1 B q.body.length d (u8s q.body)) :
    Calls Try.prog 12 #[pdV q A c, pdV q B d] W fun e w' => e = .returned (.bool true) ∧ Below W.heap.size W w' := by
  have h := ref_same q q A B c d h8 h8 W hs ht
  rwa [pdEq_self] at h
theorem same_none9 (q : Pdu) (h : q.body = []) (W : World) :
    Calls Try.prog 12 #[pdV q none 0, pdV q none 0] W fun e w' => e = .returned (.bool true) ∧ Below W.heap.size W w' :=
  same_any9 q none none 0 0 (by rw [h]; exact fun x hx => by cases hx) W (sl_empty9 h W) (sl_empty9 h W)
theorem ask_body (p : Peer) (a : Nat) : (shAsk p a).2.1.body = [] := by
  unfold shAsk; split <;> rfl
theorem ans_body (p : Peer) (q : Pdu) (b : Nat) : (shAnswer p q b).2.1.body = [] := by
  unfold shAnswer; split
  · exact seal_bd _ _
  · rfl
theorem con_body (p : Peer) (q : Pdu) : (shConfirm p q).2.1.body = [] := by
  unfold shConfirm
  split
  · split
    · split
      · split
        · exact seal_bd _ _
        · rfl
      · rfl
    · rfl
  · rfl
theorem dat_8 (p : Peer) {xs : List Nat} (h : bytes8 xs) : bytes8 (shData p xs).1.body := by
  have h0 : bytes8 pdZero.body := fun x hx => by cases hx
  unfold shData
  split
  · split
    · rw [seal_bd]; exact h
    · exact h0
  · exact h0
theorem end_8 (p : Peer) {y : Nat} (h : y < 256) : bytes8 (shEnd p y).2.1.body := by
  have h0 : bytes8 pdZero.body := fun x hx => by cases hx
  unfold shEnd
  split
  · split
    · rw [seal_bd]; exact fun x hx => by simp at hx; omega
    · exact h0
  · exact h0
end Go.Proofs.Ytekcnmimfhiblaa
