/-
  package pdu as landed: what reading an encoding from its start to its end comes to.
-/
import Derived.Test.YtekcnmimfhiblaaPdUn
namespace Go.Proofs.Ytekcnmimfhiblaa
open Go.RowKit

/-- What a run of reading gives: the PDU, what is left, whether more was asked for than there was. -/
def seqTail (q : Pdu) (l : List Nat) (s : Bool) : Pdu × List Nat × Bool := ({ q with mac := val9 l 8 }, aft9 l 8, s || decide (l.length < 8))
def seqKind (f t : Nat) (l : List Nat) (s : Bool) : Pdu × List Nat × Bool :=
  if f / 2 = 1 then (⟨(f / 2 : Nat), (f % 2 : Nat), (t : Nat), val9 l 4, 0, [], 0⟩, aft9 l 4, s || decide (l.length < 4))
  else if f / 2 = 2 ∨ f / 2 = 3 then seqTail ⟨(f / 2 : Nat), (f % 2 : Nat), (t : Nat), val9 l 4, val9 (aft9 l 4) 4, [], 0⟩ (aft9 (aft9 l 4) 4) (s || decide (l.length < 4) || decide ((aft9 l 4).length < 4))
  else if f / 2 = 5 then seqTail ⟨(f / 2 : Nat), (f % 2 : Nat), (t : Nat), 0, val9 l 4, nx9 (aft9 (aft9 l 4) 2) (val9 (aft9 l 4) 2), 0⟩ (aft9 (aft9 (aft9 l 4) 2) (val9 (aft9 l 4) 2)) (s || decide (l.length < 4) || decide ((aft9 l 4).length < 2) || decide ((aft9 (aft9 l 4) 2).length < val9 (aft9 l 4) 2))
  else if f / 2 = 6 then seqTail ⟨(f / 2 : Nat), (f % 2 : Nat), (t : Nat), 0, val9 l 4, nx9 (aft9 l 4) 1, 0⟩ (aft9 (aft9 l 4) 1) (s || decide (l.length < 4) || decide ((aft9 l 4).length < 1))
  else seqTail ⟨(f / 2 : Nat), (f % 2 : Nat), (t : Nat), 0, 0, [], 0⟩ l s
def seqRun (l : List Nat) : Pdu × List Nat × Bool := seqKind (val9 l 1) (val9 (aft9 l 1) 3) (aft9 (aft9 l 1) 3) (false || decide (l.length < 1) || decide ((aft9 l 1).length < 3))

theorem be_chunk {l : List Nat} (h : bytes8 l) : beB (chunkT l 0 l.length) l.length = l := by
  have h1 := chunk_be [] [] (chunkT l 0 l.length) l.length (chunkT_lt h 0 _)
  simp only [List.nil_append, List.append_nil, List.length_nil] at h1
  have h2 := chunkT_inj (be_8 (chunkT l 0 l.length) l.length) h 0 l.length h1
  apply List.ext_getElem (be_len _ _)
  intro i h3 h4
  have h5 := h2 i h4
  rw [Nat.zero_add, List.getD_eq_getElem?_getD, List.getD_eq_getElem?_getD, List.getElem?_eq_getElem h3, List.getElem?_eq_getElem h4] at h5
  exact h5
theorem nx_aft {l : List Nat} {m : Nat} (h : m ≤ l.length) : nx9 l m ++ aft9 l m = l := by
  unfold nx9 aft9
  rw [if_pos h, if_pos h, List.take_append_drop]
theorem nx_length {l : List Nat} {m : Nat} (h : m ≤ l.length) : (nx9 l m).length = m := by
  unfold nx9
  rw [if_pos h, List.length_take]; omega
theorem be_aft {l : List Nat} (h8 : bytes8 l) {m : Nat} (h : m ≤ l.length) : beB (val9 l m) m ++ aft9 l m = l := by
  have h1 := be_chunk (nx9_8 h8 m)
  have h2 : beB (val9 l m) m = nx9 l m := by
    unfold val9
    have := nx_length h
    rw [this] at h1 ⊢
    exact h1
  rw [h2, nx_aft h]
theorem val_be {n m : Nat} (h : n < 256 ^ m) (r : List Nat) : val9 (beB n m ++ r) m = n := by
  have hl : m ≤ (beB n m ++ r).length := by rw [List.length_append, be_len]; omega
  have hn : nx9 (beB n m ++ r) m = beB n m := by
    unfold nx9
    rw [if_pos hl]
    exact List.take_left' (be_len n m)
  unfold val9
  rw [hn, be_len]
  have h1 := chunk_be [] [] n m h
  simpa using h1
theorem aft_app {m : Nat} (a r : List Nat) (h : a.length = m) : aft9 (a ++ r) m = r := by
  unfold aft9
  rw [if_pos (by rw [List.length_append]; omega)]
  exact List.drop_left' h
theorem nx_app {m : Nat} (a r : List Nat) (h : a.length = m) : nx9 (a ++ r) m = a := by
  unfold nx9
  rw [if_pos (by rw [List.length_append]; omega)]
  exact List.take_left' h
theorem aft_be (n m : Nat) (r : List Nat) : aft9 (beB n m ++ r) m = r := aft_app _ _ (be_len n m)
theorem long_be (n m : Nat) (r : List Nat) : decide ((beB n m ++ r).length < m) = false := decide_eq_false (by rw [List.length_append, be_len]; omega)
theorem long_app {m : Nat} (a r : List Nat) (h : a.length = m) : decide ((a ++ r).length < m) = false := decide_eq_false (by rw [List.length_append]; omega)

/-- What was encoded is read again. -/
theorem seq_enc {q : Pdu} (hk : q.ok) (hm : pdMay q) : seqRun (pdEnc q) = (q, [], false) := by
  obtain ⟨kind, dir, train, a, b, body, mac⟩ := q
  obtain ⟨ha, hb, _, hmac⟩ := hk
  have he : pdEnc ⟨kind, dir, train, a, b, body, mac⟩ = pdEncV ⟨kind, dir, train, a, b, body, mac⟩ := by unfold pdEnc; rw [if_pos hm]
  rw [he]
  obtain ⟨ht0, ht1, hf⟩ := hm
  unfold pdForm at hf
  simp only at ha hb hmac ht0 ht1 hf
  obtain ⟨t, rfl⟩ : ∃ t : Nat, train = t := ⟨train.toNat, by omega⟩
  have p3 : (256 : Nat) ^ 3 = 16777216 := by decide
  have p8 : (256 : Nat) ^ 8 = 18446744073709551616 := by decide
  have p2 : (256 : Nat) ^ 2 = 65536 := by decide
  have h3 : t < 256 ^ 3 := by rw [p3]; omega
  have h4 : a < 256 ^ 4 := by rw [pow256_4]; exact ha
  have h5 : b < 256 ^ 4 := by rw [pow256_4]; exact hb
  have h6 : mac < 256 ^ 8 := by rw [p8]; exact hmac
  obtain ⟨f, hff⟩ : ∃ f : Nat, (2 * kind + dir).toNat = f := ⟨_, rfl⟩
  have h1 : f < 256 ^ 1 := by rw [Nat.pow_one]; omega
  unfold pdEncV pdTextV
  simp only [hff, Int.toNat_natCast]
  rcases hf with ⟨rfl, rfl, rfl, rfl, hl⟩ | ⟨rfl, rfl, hl⟩ | ⟨rfl, rfl, hl⟩ | ⟨rfl, hd, rfl, hl1, hl2⟩ | ⟨rfl, hd, rfl, hl⟩
  · have e : body = [] := List.eq_nil_of_length_eq_zero hl
    subst e
    obtain rfl : f = 2 := by omega
    simp only [List.append_assoc, seqRun, val_be h1, val_be h3, aft_be, long_be, Bool.or_false, seqKind]
    have hv := val_be h4 []
    have hw := aft_be a 4 []
    rw [List.append_nil] at hv hw
    simp [hv, hw, be_len]
  · have e : body = [] := List.eq_nil_of_length_eq_zero hl
    subst e
    obtain rfl : f = 5 := by omega
    simp only [List.append_assoc, seqRun, val_be h1, val_be h3, aft_be, long_be, Bool.or_false, seqKind]
    have hv := val_be h6 []
    have hw := aft_be mac 8 []
    rw [List.append_nil] at hv hw
    simp [seqTail, val_be h4, val_be h5, aft_be, be_len, hv, hw]
  · have e : body = [] := List.eq_nil_of_length_eq_zero hl
    subst e
    obtain rfl : f = 6 := by omega
    simp only [List.append_assoc, seqRun, val_be h1, val_be h3, aft_be, long_be, Bool.or_false, seqKind]
    have hv := val_be h6 []
    have hw := aft_be mac 8 []
    rw [List.append_nil] at hv hw
    simp [seqTail, val_be h4, val_be h5, aft_be, be_len, hv, hw]
  · have h7 : body.length < 256 ^ 2 := by rw [p2]; omega
    have hv := val_be h6 []
    have hw := aft_be mac 8 []
    rw [List.append_nil] at hv hw
    have hfd : f / 2 = 5 := by omega
    have hfm : ((f % 2 : Nat) : Int) = dir := by omega
    simp only [List.append_assoc, seqRun, val_be h1, val_be h3, aft_be, long_be, Bool.or_false, seqKind, hfd]
    simp [seqTail, val_be h5, aft_be, be_len, hv, hw, val_be h7, nx_app _ _ rfl, aft_app _ _ rfl, hfm]
  · have hv := val_be h6 []
    have hw := aft_be mac 8 []
    rw [List.append_nil] at hv hw
    have hfd : f / 2 = 6 := by omega
    have hfm : ((f % 2 : Nat) : Int) = dir := by omega
    simp only [List.append_assoc, seqRun, val_be h1, val_be h3, aft_be, long_be, Bool.or_false, seqKind, hfd]
    have hne : body ≠ [] := fun e => by rw [e] at hl; cases hl
    simp [seqTail, val_be h5, aft_be, be_len, hv, hw, nx_app _ _ hl, aft_app _ _ hl, hfm, hne]
theorem seqTail_short {q : Pdu} {l : List Nat} {s : Bool} (h : (seqTail q l s).2.2 = false) : s = false := by
  unfold seqTail at h
  simp only [Bool.or_eq_false_iff] at h
  exact h.1
theorem seqKind_short {f t : Nat} {l : List Nat} {s : Bool} (h : (seqKind f t l s).2.2 = false) : s = false := by
  unfold seqKind at h
  split at h
  · simp only [Bool.or_eq_false_iff] at h
    exact h.1
  · split at h
    · have := seqTail_short h
      simp only [Bool.or_eq_false_iff] at this
      exact this.1.1
    · split at h
      · have := seqTail_short h
        simp only [Bool.or_eq_false_iff] at this
        exact this.1.1.1
      · split at h
        · have := seqTail_short h
          simp only [Bool.or_eq_false_iff] at this
          exact this.1.1
        · exact seqTail_short h
/-- What is read whole and is valid was encoded so. -/
theorem seq_only {l : List Nat} (h8 : bytes8 l) {q : Pdu} (h : seqRun l = (q, [], false)) (hm : pdMay q) : q.ok ∧ pdEnc q = l := by
  have hm0 := hm
  have he : pdEnc q = pdEncV q := by unfold pdEnc; rw [if_pos hm]
  rw [he]
  unfold seqRun at h
  have hs := seqKind_short (congrArg (·.2.2) h)
  rw [hs] at h
  simp only [Bool.false_or, Bool.or_eq_false_iff, decide_eq_false_iff_not] at hs
  have p8 : (256 : Nat) ^ 8 = 18446744073709551616 := by decide
  have h81 := aft9_8 h8 1
  have h82 := aft9_8 h81 3
  have e1 := be_aft h8 (show 1 ≤ l.length by omega)
  have e3 := be_aft h81 (show 3 ≤ (aft9 l 1).length by omega)
  generalize val9 l 1 = f at *
  generalize val9 (aft9 l 1) 3 = t at *
  generalize aft9 (aft9 l 1) 3 = r at *
  rw [← e3] at e1
  rw [← e1]
  have hk : (2 * ((f / 2 : Nat) : Int) + ((f % 2 : Nat) : Int)).toNat = f := by omega
  have w4 : ∀ {l : List Nat}, bytes8 l → val9 l 4 < 4294967296 := fun h => by have := val9_lt h 4; rwa [pow256_4] at this
  have w8 : ∀ {l : List Nat}, bytes8 l → val9 l 8 < 18446744073709551616 := fun h => by have := val9_lt h 8; rwa [p8] at this
  have n8 : bytes8 [] := fun x hx => by cases hx
  unfold seqKind at h
  split at h
  · rename_i hf
    simp only [Prod.mk.injEq, Bool.false_or, decide_eq_false_iff_not] at h
    obtain ⟨rfl, hr, hs2⟩ := h
    have e4 := be_aft h82 (show 4 ≤ r.length by omega)
    rw [hr, List.append_nil] at e4
    refine ⟨⟨w4 h82, (show (0 : Nat) < 4294967296 by decide), n8, (show (0 : Nat) < 18446744073709551616 by decide)⟩, ?_⟩
    unfold pdEncV pdTextV
    simp only [hk, Int.toNat_natCast, e4]
    rw [if_pos (by omega), if_neg (by omega), if_neg (by omega), if_neg (by omega)]
    simp only [List.append_nil]
  · split at h
    · rename_i hf1 hf
      simp only [seqTail, Prod.mk.injEq, Bool.false_or, Bool.or_eq_false_iff, decide_eq_false_iff_not] at h
      obtain ⟨rfl, hr, ⟨hs1, hs2⟩, hs3⟩ := h
      have e4 := be_aft h82 (show 4 ≤ r.length by omega)
      have h83 := aft9_8 h82 4
      have e5 := be_aft h83 (show 4 ≤ (aft9 r 4).length by omega)
      have h84 := aft9_8 h83 4
      have e6 := be_aft h84 (show 8 ≤ (aft9 (aft9 r 4) 4).length by omega)
      rw [hr, List.append_nil] at e6
      refine ⟨⟨w4 h82, w4 h83, n8, w8 h84⟩, ?_⟩
      unfold pdEncV pdTextV
      simp only [hk, Int.toNat_natCast, e6]
      rw [if_pos (by omega), if_pos (by omega), if_neg (by omega), if_pos (by omega)]
      simp only [List.append_assoc, List.nil_append, e5, e4]
    · split at h
      · rename_i hf1 hf2 hf
        simp only [seqTail, Prod.mk.injEq, Bool.false_or, Bool.or_eq_false_iff, decide_eq_false_iff_not] at h
        obtain ⟨rfl, hr, ⟨⟨hs1, hs2⟩, hs3⟩, hs4⟩ := h
        have e4 := be_aft h82 (show 4 ≤ r.length by omega)
        have h83 := aft9_8 h82 4
        have e5 := be_aft h83 (show 2 ≤ (aft9 r 4).length by omega)
        have h84 := aft9_8 h83 2
        generalize val9 (aft9 r 4) 2 = n at *
        have hn := nx_length (show n ≤ (aft9 (aft9 r 4) 2).length by omega)
        have e6 := nx_aft (show n ≤ (aft9 (aft9 r 4) 2).length by omega)
        have h85 := aft9_8 h84 n
        have e7 := be_aft h85 (show 8 ≤ (aft9 (aft9 (aft9 r 4) 2) n).length by omega)
        rw [hr, List.append_nil] at e7
        refine ⟨⟨(show (0 : Nat) < 4294967296 by decide), w4 h82, nx9_8 h84 n, w8 h85⟩, ?_⟩
        unfold pdEncV pdTextV
        simp only [hk, Int.toNat_natCast, e7, hn]
        rw [if_neg (by omega), if_pos (by omega), if_pos (by omega), if_pos (by omega)]
        simp only [List.append_assoc, List.nil_append, e6, e5, e4]
      · split at h
        · rename_i hf1 hf2 hf3 hf
          simp only [seqTail, Prod.mk.injEq, Bool.false_or, Bool.or_eq_false_iff, decide_eq_false_iff_not] at h
          obtain ⟨rfl, hr, ⟨hs1, hs2⟩, hs3⟩ := h
          have e4 := be_aft h82 (show 4 ≤ r.length by omega)
          have h83 := aft9_8 h82 4
          have e6 := nx_aft (show 1 ≤ (aft9 r 4).length by omega)
          have h85 := aft9_8 h83 1
          have e7 := be_aft h85 (show 8 ≤ (aft9 (aft9 r 4) 1).length by omega)
          rw [hr, List.append_nil] at e7
          refine ⟨⟨(show (0 : Nat) < 4294967296 by decide), w4 h82, nx9_8 h83 1, w8 h85⟩, ?_⟩
          unfold pdEncV pdTextV
          simp only [hk, Int.toNat_natCast, e7]
          rw [if_neg (by omega), if_pos (by omega), if_neg (by omega), if_pos (by omega)]
          simp only [List.append_assoc, List.nil_append, e6, e4]
        · rename_i hf1 hf2 hf3 hf4
          simp only [seqTail, Prod.mk.injEq] at h
          obtain ⟨rfl, _, _⟩ := h
          have := hm0.2.2
          unfold pdForm at this
          simp only at this
          omega
/-- Decoding by reading from the start is decoding. -/
theorem seq_dec_some {l : List Nat} (h8 : bytes8 l) (h1 : (seqRun l).2.2 = false) (h2 : (seqRun l).2.1 = []) (h3 : pdMay (seqRun l).1) : pdDec l = some (seqRun l).1 := by
  obtain ⟨hk, he⟩ := seq_only h8 (q := (seqRun l).1) (Prod.ext rfl (Prod.ext h2 h1)) h3
  have := pd_dec_enc hk h3
  rwa [he] at this
theorem seq_dec_none {l : List Nat} (h8 : bytes8 l) (h : ¬ ((seqRun l).2.2 = false ∧ (seqRun l).2.1 = [] ∧ pdMay (seqRun l).1)) : pdDec l = none := by
  cases hd : pdDec l with
  | none => rfl
  | some q =>
    obtain ⟨hm, he⟩ := pd_dec_only hd
    have hs := seq_enc (dec_ok h8 hd) hm
    rw [he] at hs
    rw [hs] at h
    exact absurd ⟨rfl, rfl, hm⟩ h
end Go.Proofs.Ytekcnmimfhiblaa
