/-
  Two arrays of words compared.
-/
import Derived.Test.YtekcnmimfhiblaaMgB
import Derived.Laws.StructEq
namespace Go.Proofs.Ytekcnmimfhiblaa
open Go.RowKit

def wordsA (k : IntKind) (xs : List Nat) : Array Value := (xs.map fun (n : Nat) => Value.int k (n : Int)).toArray
theorem wordsA_at (k : IntKind) (xs : List Nat) (i : Nat) : (wordsA k xs)[i]? = (xs[i]?).map fun (n : Nat) => Value.int k (n : Int) := by
  simp [wordsA]
theorem run_part_word {P : Program} {w : World} {e : TypeId} (k : IntKind) (xs : List Nat) (i : Nat) (hagg : (isAgg e).run P w = .ok false w) (h : i < xs.length) :
    (part e (wordsA k xs) i).run P w = .ok (.int k (xs.getD i 0 : Nat)) w := by
  simp [part, hagg, wordsA_at, List.getElem?_eq_getElem h, List.getD_eq_getElem?_getD]
theorem run_equalIn_words {P : Program} (w : World) (q : Nat) (t e : TypeId) (len : Nat) (k : IntKind) (ht : P.underlying t = some (.array len e)) (he : ∀ a b, (Op.equalIn q e (.int k a) (.int k b)).run P w = .ok (a == b) w) (hsz : (sizeOf e).run P w = .ok 1 w) (hagg : (isAgg e).run P w = .ok false w)
    (xs ys : List Nat) (hx : xs.length = len) (hy : ys.length = len) :
    (Op.equalIn (q + 1) t (.agg (wordsA k xs)) (.agg (wordsA k ys))).run P w = .ok (decide (xs = ys)) w := by
  simp only [Op.equalIn, Sem.run_bind, run_underlying ht, Result.andThen_ok, hsz, Nat.mul_one]
  rw [Std.Legacy.Range.forIn_eq_forIn_range']
  simp only [Std.Legacy.Range.size, Nat.sub_zero, Nat.add_sub_cancel, Nat.div_one]
  have key : ∀ (m s : Nat), s + m = len → Sem.run P (forIn (List.range' s m) ((none : Option Bool), ()) fun i __s => do
      let a ← part e (wordsA k xs) i
      let b ← part e (wordsA k ys) i
      let r ← Op.equalIn q e a b
      if (!r) = true then pure (ForInStep.done (some false, ())) else pure (ForInStep.yield (none, ()))) w = .ok (if xs.drop s = ys.drop s then (none, ()) else (some false, ())) w := by
    intro m
    induction m with
    | zero =>
      intro s hs
      rw [List.drop_of_length_le (by omega), List.drop_of_length_le (by omega)]
      simp
    | succ m ih =>
      intro s hs
      have h1 : s < xs.length := by omega
      have h2 : s < ys.length := by omega
      rw [List.range'_succ, List.forIn_cons]
      simp only [Sem.run_bind, run_part_word k xs s hagg h1, run_part_word k ys s hagg h2, Result.andThen_ok, he]
      rw [List.drop_eq_getElem_cons h1, List.drop_eq_getElem_cons h2]
      have g1 : xs.getD s 0 = xs[s] := by simp [List.getD_eq_getElem?_getD, h1]
      have g2 : ys.getD s 0 = ys[s] := by simp [List.getD_eq_getElem?_getD, h2]
      rw [g1, g2]
      by_cases hx2 : xs[s] = ys[s]
      · rw [hx2]
        have ih2 := ih (s + 1) (by omega)
        simp only [beq_self_eq_true, Bool.not_true, Bool.false_eq_true, if_false, Sem.run_pure, Result.andThen_ok, List.cons.injEq, true_and]
        exact ih2
      · have hb : (((xs[s] : Nat) : Int) == ((ys[s] : Nat) : Int)) = false := by rw [beq_eq_false_iff_ne]; omega
        have hne : ¬ (xs[s] :: xs.drop (s + 1) = ys[s] :: ys.drop (s + 1)) := fun h => hx2 (List.cons.inj h).1
        rw [if_neg hne]
        simp only [hb, Bool.not_false, if_true, Sem.run_pure, Result.andThen_ok]
  rw [key len 0 (by omega)]
  by_cases h : xs = ys
  · simp [h]
  · simp [h]
theorem run_eql_words {P : Program} (w : World) (t e : TypeId) (len : Nat) (k k' : IntKind) (ht : P.underlying t = some (.array len e)) (hek : P.underlying e = some (.int k')) (hsz : (sizeOf e).run P w = .ok 1 w) (hagg : (isAgg e).run P w = .ok false w)
    (xs ys : List Nat) (hx : xs.length = len) (hy : ys.length = len) : (binOp .eql t (.agg (wordsA k xs)) (.agg (wordsA k ys))).run P w = .ok (.bool (decide (xs = ys))) w := by
  rw [run_eql_struct, show (10000 : Nat) = 9999 + 1 from rfl, run_equalIn_words w 9999 t e len k ht (fun a b => run_equalIn_int w 9998 e k k' a b hek) hsz hagg xs ys hx hy]
  rfl
end Go.Proofs.Ytekcnmimfhiblaa
