/-
  linesideref09.Decode of no bytes; of any bytes.
-/
import Derived.Test.YtekcnmimfhiblaaPdSame

namespace Go.Proofs.Ytekcnmimfhiblaa

open Go.RowKit

open Go.Great
theorem enc_len {p : Pdu} (hm : pdMay p) : (pdEnc p).length ≤ 2000 := by
  have h := text_len hm
  have e : pdEnc p = pdText p ++ (if 1 < p.kind then beB p.mac 8 else []) := by unfold pdEnc pdEncV pdText; rw [if_pos hm, if_pos hm]
  rw [e, List.length_append]
  split
  · rw [be_len]; omega
  · simp; omega
theorem dec_nil : pdDec [] = none := by simp [pdDec]
/-- What Decode's call says. -/
def DecPost (xs : List Nat) (w : World) (e : Ending) (w' : World) : Prop :=
  ∃ p A' c' err, e = .returned (.tuple #[pdV p A' c', .int .i64 err]) ∧ DecAns xs p err ∧ Hid (Sl w' 1 A' p.body.length c' (u8s p.body)) ∧ Hid (∀ a, A' = some a → w.heap.size < a.block) ∧ Hid (Below w.heap.size w w')
/-- What the program's Decode says: the body may lie among the bytes that were handed in. -/
def DecPostA (A : Option Addr) (xs : List Nat) (w : World) (e : Ending) (w' : World) : Prop :=
  ∃ p A' c' err, e = .returned (.tuple #[pdV p A' c', .int .i64 err]) ∧ DecAns xs p err ∧ Hid (Sl w' 1 A' p.body.length c' (u8s p.body)) ∧ Hid (∀ a, A' = some a → w.heap.size ≤ a.block ∨ ∃ a0, A = some a0 ∧ a.block = a0.block) ∧ Hid (Below w.heap.size w w')
def EncPost (l : List Nat) (code : Int) (w : World) (e : Ending) (w' : World) : Prop :=
  ∃ A' c', e = .returned (.tuple #[.slice A' l.length c', .int .i64 code]) ∧ Hid (w'.ownsRow w.heap.size 5 1 (.slice A' l.length c') l.length (u8s l)) ∧ Hid (Below w.heap.size w w')
def TextPost (l : List Nat) (w : World) (e : Ending) (w' : World) : Prop :=
  ∃ A' c', e = .returned (.slice A' l.length c') ∧ Hid (w'.ownsRow w.heap.size 5 1 (.slice A' l.length c') l.length (u8s l)) ∧ Hid (Below w.heap.size w w')
end Go.Proofs.Ytekcnmimfhiblaa
