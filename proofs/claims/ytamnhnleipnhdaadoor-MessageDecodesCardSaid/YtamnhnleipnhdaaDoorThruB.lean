/-
  package packet's tables, gone through: what the parts do with a packet, as a function.
-/
import Derived.Test.YtamnhnleipnhdaaDoorThruA

namespace Go.Proofs.YtamnhnleipnhdaaDoor

open Go.RowKit

mutual
def szPt : Pt → Nat
  | .mk _ k b => if k = 3 then 1 else 1 + szPts b
def szPts : List Pt → Nat
  | [] => 0
  | x :: l => szPt x + szPts l
end
theorem szPt_pos (x : Pt) : 1 ≤ szPt x := by cases x; rw [szPt]; split <;> omega
theorem len_sz : ∀ l : List Pt, l.length ≤ szPts l
  | [] => Nat.zero_le _
  | x :: l => by rw [List.length_cons, szPts]; have := len_sz l; have := szPt_pos x; omega
theorem szPts_append (a b : List Pt) : szPts (a ++ b) = szPts a + szPts b := by
  induction a with
  | nil => simp [szPts]
  | cons y d ih => simp only [List.cons_append, szPts, ih]; omega
mutual
theorem szPt_le : ∀ x : Pt, szPt x ≤ szL (ndPt x)
  | .mk v k b => by
    rw [szPt, ndPt]
    split
    · simp [szL, szN]
    · have := szPts_le b
      simp only [szL, szN]; omega
theorem szPts_le : ∀ l : List Pt, szPts l ≤ szL (ndPts l)
  | [] => by simp [szPts]
  | x :: l => by
    rw [szPts, ndPts, szL_append]
    have := szPt_le x
    have := szPts_le l
    omega
end
mutual
def no5N : Nd → Bool
  | .v n => decide (n ≠ 5)
  | .g _ b => no5L b
def no5L : List Nd → Bool
  | [] => true
  | x :: l => no5N x && no5L l
end
theorem good_append (a b : List Nd) : goodL (a ++ b) = (goodL a && goodL b) := by
  induction a with
  | nil => simp [goodL]
  | cons x l ih => simp [goodL, ih, Bool.and_assoc]
theorem no5_append (a b : List Nd) : no5L (a ++ b) = (no5L a && no5L b) := by
  induction a with
  | nil => simp [no5L]
  | cons x l ih => simp [no5L, ih, Bool.and_assoc]
theorem c7_append (a b : List Nd) : c7 (a ++ b) = c7 a + c7 b := by
  induction a with
  | nil => simp [c7]
  | cons x l ih => cases x <;> simp [c7, ih]; omega
theorem nd_cons (v k : Nat) (b l : List Pt) : ndPts (.mk v k b :: l) = (if k = 3 then [.v v] else [.v v, .g k (ndPts b)]) ++ ndPts l := by rw [ndPts, ndPt]
theorem c7_cons (v k : Nat) (b l : List Pt) : c7 (ndPts (.mk v k b :: l)) = (if v = 7 then 1 else 0) + c7 (ndPts l) := by
  rw [nd_cons, c7_append]
  split <;> simp [c7]
theorem good_cons {v k : Nat} {b l : List Pt} (h : goodL (ndPts (.mk v k b :: l)) = true) : v < 96 ∧ k ≤ 3 ∧ (k ≠ 3 → goodL (ndPts b) = true ∧ noL (ndPts b) = true) ∧ goodL (ndPts l) = true := by
  rw [nd_cons, good_append, Bool.and_eq_true] at h
  obtain ⟨h1, h2⟩ := h
  by_cases hk : k = 3
  · rw [if_pos hk] at h1
    simp only [goodL, goodN, Bool.and_true, decide_eq_true_eq] at h1
    exact ⟨h1, by omega, fun h => absurd hk h, h2⟩
  · rw [if_neg hk] at h1
    simp only [goodL, goodN, Bool.and_true, Bool.and_eq_true, decide_eq_true_eq] at h1
    exact ⟨h1.1, by omega, fun _ => h1.2.2, h2⟩
theorem no5_cons {v k : Nat} {b l : List Pt} (h : no5L (ndPts (.mk v k b :: l)) = true) : v ≠ 5 ∧ (k ≠ 3 → no5L (ndPts b) = true) ∧ no5L (ndPts l) = true := by
  rw [nd_cons, no5_append, Bool.and_eq_true] at h
  obtain ⟨h1, h2⟩ := h
  by_cases hk : k = 3
  · rw [if_pos hk] at h1
    simp only [no5L, no5N, Bool.and_true, decide_eq_true_eq] at h1
    exact ⟨h1, fun h => absurd hk h, h2⟩
  · rw [if_neg hk] at h1
    simp only [no5L, no5N, Bool.and_true, Bool.and_eq_true, decide_eq_true_eq] at h1
    exact ⟨h1.1, fun _ => h1.2, h2⟩
theorem nd_last (l : List Pt) (a b : Int) (s : WS) : runL (ndPts l) a s = runL (ndPts l) b s := by
  cases l with
  | nil => simp [ndPts, runL]
  | cons x l =>
    cases x with
    | mk v k c =>
      rw [nd_cons]
      split <;> (simp only [List.cons_append, List.nil_append, runL, runN]; try rfl)
/-- What one part, and what follows it, does. -/
theorem run_cons (v k : Nat) (b l : List Pt) (s : WS) (he : s.e = 0) : runL (ndPts (.mk v k b :: l)) 0 s = if (oneS v s).2.e ≠ 0 then (oneS v s).2 else runL (ndPts l) 0 (repS (fun s => runL (ndPts b) 0 s) (timesOf k (oneS v s).1) (oneS v s).2) := by
  rw [nd_cons]
  by_cases h : (oneS v s).2.e ≠ 0
  · rw [if_pos h]
    split
    · rw [List.cons_append, runL, if_neg (by omega), runN, runL_err _ _ h]
    · rw [List.cons_append, runL, if_neg (by omega), runN, runL_err _ _ h]
  · rw [if_neg h]
    by_cases hk : k = 3
    · rw [if_pos hk, List.cons_append, runL, if_neg (by omega), runN, List.nil_append, show timesOf k (oneS v s).1 = 0 by rw [hk]; rfl, repS]
      exact nd_last l _ _ _
    · rw [if_neg hk, List.cons_append, runL, if_neg (by omega), runN, List.cons_append, runL, if_neg h, runN, List.nil_append, show timesOf k (oneS v s).1 = many k (oneS v s).1 by unfold timesOf; rw [if_neg hk]]
      exact nd_last l _ _ _
theorem one_fetch_bad (v : Int) (s : WS) (he : s.e = 0) (h : (fetch v s).2.e ≠ 0) : (oneS v s).2 = (fetch v s).2 := by rw [oneS, if_neg (by omega), if_pos h]
theorem one_may_bad (v : Int) (s : WS) (he : s.e = 0) (h : (fetch v s).2.e = 0) (hm : mayOf v (fetch v s).1 = false) : (oneS v s).2 = { (fetch v s).2 with e := 20 } := by rw [oneS, if_neg (by omega), if_neg (by omega), if_pos hm]
theorem one_fine (v : Int) (s : WS) (he : s.e = 0) (h : (fetch v s).2.e = 0) (hm : mayOf v (fetch v s).1 = true) : oneS v s = ((fetch v s).1, keep v (fetch v s).1 (fetch v s).2) := by rw [oneS, if_neg (by omega), if_neg (by omega), if_neg (by rw [hm]; decide)]
theorem keep_e (v n : Int) (s : WS) : (keep v n s).e = s.e := by unfold keep; split; rfl; split <;> rfl

/-- What through answers: R is what the table's words leave. -/
def ThruPost (St : World → WS → Prop) (base lo hi : Nat) (w : World) (R : WS) (e : Ending) (w' : World) : Prop :=
  ((R.e = 0 ∧ e = .returned (.tuple #[]) ∧ St w' R) ∨ (R.e ≠ 0 ∧ e = panE R.e)) ∧ FrZ base lo hi w w'
theorem ThruPost.fine {St : World → WS → Prop} {base lo hi : Nat} {w : World} {R : WS} {e : Ending} {w' : World} (h : ThruPost St base lo hi w R e w') (h0 : R.e = 0) : e = .returned (.tuple #[]) ∧ St w' R ∧ FrZ base lo hi w w' := by
  rcases h.1 with ⟨_, h1, h2⟩ | ⟨h1, _⟩
  · exact ⟨h1, h2, h.2⟩
  · exact absurd h0 h1
theorem ThruPost.bad {St : World → WS → Prop} {base lo hi : Nat} {w : World} {R : WS} {e : Ending} {w' : World} (h : ThruPost St base lo hi w R e w') (h0 : R.e ≠ 0) : e = panE R.e ∧ FrZ base lo hi w w' := by
  rcases h.1 with ⟨h1, _⟩ | ⟨_, h1⟩
  · exact absurd h1 h0
  · exact ⟨h1, h.2⟩
end Go.Proofs.YtamnhnleipnhdaaDoor
