/-
  What comes from another connection, or answers another question.
-/
import Derived.Test.YtekcnmimfhiblaaShThm
namespace Go.Proofs.Ytekcnmimfhiblaa

theorem ask_again {base : Key4} {train : Int} {a b : Nat} (h0 : 0 ≤ train) (h1 : train ≤ 16777215) : shAsk (upX base train a b) a = (askX base train a, askP train a, 0) := by
  unfold shAsk
  rw [if_pos ⟨rfl, h0, h1⟩]
  rfl
theorem fits_stray {base other : Key4} {train : Int} {a b c d : Nat} (h0 : 0 ≤ train) (h1 : train ≤ 16777215) (s : Bool) {body : List Nat} (hb1 : 1 ≤ body.length) (hb2 : body.length ≤ 1023) : shFits (upE (!s) base train a b) (datP (deriveF other c d) s train d body) 5 :=
  fits_up (!s) 5 (seal_may (may5 (b := d) h0 h1 s hb1 hb2) (show (1 : Int) < 5 by decide)) (seal_kind _ _) (by rw [Bool.not_not]; exact seal_dir _ _) (seal_train _ _)
theorem take_stray {base other : Key4} {train : Int} {a b c d : Nat} (h0 : 0 ≤ train) (h1 : train ≤ 16777215) (s : Bool) {body : List Nat} (hb1 : 1 ≤ body.length) (hb2 : body.length ≤ 1023) (hbd : b ≠ d) : shTake (upE (!s) base train a b) (datP (deriveF other c d) s train d body) = ([], 110) :=
  take_stale (!s) (by rw [show (datP (deriveF other c d) s train d body).b = d from seal_b _ _]; exact fun h => hbd h.symm) (fits_stray h0 h1 s hb1 hb2)
theorem con_stray {base other : Key4} {train : Int} {a c d : Nat} (h0 : 0 ≤ train) (h1 : train ≤ 16777215) (hac : a ≠ c) : shConfirm (askX base train a) (ansP other train c d) = (peer0, pdZero, 110) := by
  have hm := seal_may (k := other) (may2 (a := c) (b := d) h0 h1) (show (1 : Int) < 2 by decide)
  have hf : shFits (askX base train a) (ansP other train c d) 2 := ⟨hm, seal_kind _ _, by
    show (pdSeal other _).dir = _
    rw [seal_dir]
    unfold fromD
    rw [if_pos (show (askX base train a).side = 0 from rfl)], by
    show (pdSeal other _).train = _
    rw [seal_train]
    rfl⟩
  unfold shConfirm
  rw [if_pos ⟨rfl, hf⟩, if_pos (show (askX base train a).state = 1 from rfl), if_neg (show ¬ (ansP other train c d).a = (askX base train a).a from fun h => hac ((show (ansP other train c d).a = c from seal_a _ _).symm.trans h).symm)]
end Go.Proofs.Ytekcnmimfhiblaa
