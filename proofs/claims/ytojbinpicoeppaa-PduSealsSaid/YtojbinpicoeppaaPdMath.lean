/-
  PDUs over plain numbers: validity, text, encoding, decoding; a turned byte.
-/
import Derived.Test.YtojbinpicoeppaaMcMath
namespace Go.Proofs.Ytojbinpicoeppaa

/-- A number in so many bytes, the first one of most weight. -/
def beB (n : Nat) : Nat → List Nat
  | 0 => []
  | m + 1 => n / 256 ^ m % 256 :: beB n m
theorem be_len (n : Nat) : ∀ m, (beB n m).length = m
  | 0 => rfl
  | m + 1 => by rw [beB, List.length_cons, be_len]
theorem be_8 (n : Nat) : ∀ m, bytes8 (beB n m)
  | 0 => fun x hx => by cases hx
  | m + 1 => by
    rw [beB]
    intro x hx
    rcases List.mem_cons.1 hx with rfl | h
    · exact Nat.mod_lt _ (by decide)
    · exact be_8 n m x h
theorem be_get (n : Nat) : ∀ m s, s < m → (beB n m).getD s 0 = n / 256 ^ (m - 1 - s) % 256
  | m + 1, 0, _ => by simp [beB]
  | m + 1, s + 1, h => by
    rw [beB, List.getD_cons_succ, be_get n m s (by omega), show m + 1 - 1 - (s + 1) = m - 1 - s by omega]
theorem getD_mid (A B C : List Nat) (s : Nat) (h : s < B.length) : (A ++ (B ++ C)).getD (A.length + s) 0 = B.getD s 0 := by
  rw [List.getD_eq_getElem?_getD, List.getElem?_append_right (by omega), show A.length + s - A.length = s by omega, List.getElem?_append_left h, ← List.getD_eq_getElem?_getD]
theorem chunk_part (A C : List Nat) (n m : Nat) : ∀ s, s ≤ m → chunkT (A ++ (beB n m ++ C)) A.length s = n / 256 ^ (m - s) % 256 ^ s
  | 0, _ => by simp [chunkT, Nat.mod_one]
  | s + 1, h => by
    rw [chunkT, chunk_part A C n m s (by omega), getD_mid _ _ _ _ (by rw [be_len]; omega), be_get n m s (by omega)]
    obtain ⟨N, hN⟩ : ∃ N, n / 256 ^ (m - (s + 1)) = N := ⟨_, rfl⟩
    have e1 : n / 256 ^ (m - s) = N / 256 := by
      rw [← hN, Nat.div_div_eq_div_mul, ← Nat.pow_succ, show (m - (s + 1)).succ = m - s by omega]
    rw [e1, show m - 1 - s = m - (s + 1) by omega, hN, Nat.pow_succ, Nat.mul_comm (256 ^ s) 256, Nat.mod_mul]
    omega
theorem chunk_be (A C : List Nat) (n m : Nat) (h : n < 256 ^ m) : chunkT (A ++ (beB n m ++ C)) A.length m = n := by
  rw [chunk_part A C n m m (Nat.le_refl _), Nat.sub_self, Nat.pow_zero, Nat.div_one, Nat.mod_eq_of_lt h]
theorem be_inj {n k m : Nat} (hn : n < 256 ^ m) (hk : k < 256 ^ m) (h : beB n m = beB k m) : n = k := by
  have h1 := chunk_be [] [] n m hn
  have h2 := chunk_be [] [] k m hk
  rw [h] at h1
  exact h1.symm.trans h2

structure Pdu where
  kind : Int
  dir : Int
  train : Int
  a : Nat
  b : Nat
  body : List Nat
  mac : Nat
def Pdu.ok (p : Pdu) : Prop := p.a < 4294967296 ∧ p.b < 4294967296 ∧ bytes8 p.body ∧ p.mac < 18446744073709551616
def pdZero : Pdu := ⟨0, 0, 0, 0, 0, [], 0⟩
def pdForm (p : Pdu) : Prop :=
  (p.kind = 1 ∧ p.dir = 0 ∧ p.b = 0 ∧ p.mac = 0 ∧ p.body.length = 0) ∨
  (p.kind = 2 ∧ p.dir = 1 ∧ p.body.length = 0) ∨
  (p.kind = 3 ∧ p.dir = 0 ∧ p.body.length = 0) ∨
  (p.kind = 5 ∧ (p.dir = 0 ∨ p.dir = 1) ∧ p.a = 0 ∧ 1 ≤ p.body.length ∧ p.body.length ≤ 1023) ∨
  (p.kind = 6 ∧ (p.dir = 0 ∨ p.dir = 1) ∧ p.a = 0 ∧ p.body.length = 1)
def pdMay (p : Pdu) : Prop := 0 ≤ p.train ∧ p.train ≤ 16777215 ∧ pdForm p
instance (p : Pdu) : Decidable (pdForm p) := by unfold pdForm; infer_instance
instance (p : Pdu) : Decidable (pdMay p) := by unfold pdMay; infer_instance
/-- The text of a valid PDU. -/
def pdTextV (p : Pdu) : List Nat :=
  beB (2 * p.kind + p.dir).toNat 1 ++ (beB p.train.toNat 3 ++ ((if p.kind ≤ 3 then beB p.a 4 else []) ++ ((if 2 ≤ p.kind then beB p.b 4 else []) ++ ((if p.kind = 5 then beB p.body.length 2 else []) ++ p.body))))
def pdText (p : Pdu) : List Nat := if pdMay p then pdTextV p else []
def pdEncV (p : Pdu) : List Nat := pdTextV p ++ (if 1 < p.kind then beB p.mac 8 else [])
def pdEnc (p : Pdu) : List Nat := if pdMay p then pdEncV p else []

/-! Decoding. -/
def pdGet (b : List Nat) (i m : Nat) : Nat := if i + m ≤ b.length then chunkT b i m else 0
def pdParse (b : List Nat) : Pdu :=
  let k := b.getD 0 0 / 2
  { kind := (k : Nat), dir := (b.getD 0 0 % 2 : Nat), train := (pdGet b 1 3 : Nat),
    a := if k = 1 ∨ k = 2 ∨ k = 3 then pdGet b 4 4 else 0,
    b := if k = 2 ∨ k = 3 then pdGet b 8 4 else if k = 5 ∨ k = 6 then pdGet b 4 4 else 0,
    body := if k = 5 then (b.take (b.length - 8)).drop 10 else if k = 6 then (b.take (b.length - 8)).drop 8 else [],
    mac := if k = 2 ∨ k = 3 ∨ k = 5 ∨ k = 6 then pdGet b (b.length - 8) 8 else 0 }
def pdDec (b : List Nat) : Option Pdu := if 1 ≤ b.length ∧ pdMay (pdParse b) ∧ pdEnc (pdParse b) = b then some (pdParse b) else none
theorem get_be (A C : List Nat) (n m : Nat) (h : n < 256 ^ m) (i : Nat) (hi : i = A.length) : pdGet (A ++ (beB n m ++ C)) i m = n := by
  subst hi
  unfold pdGet
  rw [if_pos (by simp [be_len]), chunk_be A C n m h]
theorem be_one (n : Nat) (h : n < 256) : beB n 1 = [n] := by
  simp [beB, Nat.mod_eq_of_lt h]
theorem mid_slice (P B C : List Nat) (i : Nat) (h : P.length = i) : ((P ++ (B ++ C)).take (i + B.length)).drop i = B := by
  subst h
  rw [List.take_length_add_append, List.drop_left, List.take_left]
theorem parse_enc {p : Pdu} (hk : p.ok) (hm : pdMay p) : pdParse (pdEncV p) = p := by
  obtain ⟨kind, dir, train, a, b, body, mac⟩ := p
  obtain ⟨ha, hb, _, hmac⟩ := hk
  obtain ⟨ht0, ht1, hf⟩ := hm
  simp only at ha hb hmac ht0 ht1
  have e4 : (256 : Nat) ^ 4 = 4294967296 := by decide
  have e3 : (256 : Nat) ^ 3 = 16777216 := by decide
  have e8 : (256 : Nat) ^ 8 = 18446744073709551616 := by decide
  obtain ⟨t, rfl⟩ : ∃ t : Nat, train = t := ⟨train.toNat, by omega⟩
  have htr : ((t : Nat) : Int).toNat = t := by simp
  have T : t < 256 ^ 3 := by rw [e3]; omega
  have Am : a < 256 ^ 4 := by rw [e4]; exact ha
  have Bm : b < 256 ^ 4 := by rw [e4]; exact hb
  have Mm : mac < 256 ^ 8 := by rw [e8]; exact hmac
  unfold pdForm at hf
  simp only at hf
  rcases hf with ⟨rfl, rfl, rfl, rfl, hl⟩ | ⟨rfl, rfl, hl⟩ | ⟨rfl, rfl, hl⟩ | ⟨rfl, hd, rfl, hl1, hl2⟩ | ⟨rfl, hd, rfl, hl⟩
  · obtain rfl := List.eq_nil_of_length_eq_zero hl
    have h : pdEncV ⟨1, 0, t, a, 0, [], 0⟩ = [2] ++ (beB t 3 ++ (beB a 4 ++ [])) := by
      simp [pdEncV, pdTextV, be_one]
    have g1 := get_be [2] (beB a 4 ++ []) t 3 T 1 rfl
    have g2 := get_be ([2] ++ beB t 3) [] a 4 Am 4 (by simp [be_len])
    rw [List.append_assoc] at g2
    rw [h]
    simp only [pdParse, g1, g2]
    simp
  · obtain rfl := List.eq_nil_of_length_eq_zero hl
    have h : pdEncV ⟨2, 1, t, a, b, [], mac⟩ = [5] ++ (beB t 3 ++ (beB a 4 ++ (beB b 4 ++ (beB mac 8 ++ [])))) := by
      simp [pdEncV, pdTextV, be_one]
    have hlen : ([5] ++ (beB t 3 ++ (beB a 4 ++ (beB b 4 ++ (beB mac 8 ++ []))))).length = 20 := by simp [be_len]
    have g1 := get_be [5] (beB a 4 ++ (beB b 4 ++ (beB mac 8 ++ []))) t 3 T 1 rfl
    have g2 := get_be ([5] ++ beB t 3) (beB b 4 ++ (beB mac 8 ++ [])) a 4 Am 4 (by simp [be_len])
    have g3 := get_be ([5] ++ (beB t 3 ++ beB a 4)) (beB mac 8 ++ []) b 4 Bm 8 (by simp [be_len])
    have g4 := get_be ([5] ++ (beB t 3 ++ (beB a 4 ++ beB b 4))) [] mac 8 Mm 12 (by simp [be_len])
    simp only [List.append_assoc] at g1 g2 g3 g4
    rw [h]
    simp only [pdParse, hlen, g1, g2, g3, g4]
    simp
  · obtain rfl := List.eq_nil_of_length_eq_zero hl
    have h : pdEncV ⟨3, 0, t, a, b, [], mac⟩ = [6] ++ (beB t 3 ++ (beB a 4 ++ (beB b 4 ++ (beB mac 8 ++ [])))) := by
      simp [pdEncV, pdTextV, be_one]
    have hlen : ([6] ++ (beB t 3 ++ (beB a 4 ++ (beB b 4 ++ (beB mac 8 ++ []))))).length = 20 := by simp [be_len]
    have g1 := get_be [6] (beB a 4 ++ (beB b 4 ++ (beB mac 8 ++ []))) t 3 T 1 rfl
    have g2 := get_be ([6] ++ beB t 3) (beB b 4 ++ (beB mac 8 ++ [])) a 4 Am 4 (by simp [be_len])
    have g3 := get_be ([6] ++ (beB t 3 ++ beB a 4)) (beB mac 8 ++ []) b 4 Bm 8 (by simp [be_len])
    have g4 := get_be ([6] ++ (beB t 3 ++ (beB a 4 ++ beB b 4))) [] mac 8 Mm 12 (by simp [be_len])
    simp only [List.append_assoc] at g1 g2 g3 g4
    rw [h]
    simp only [pdParse, hlen, g1, g2, g3, g4]
    simp
  · rcases hd with rfl | rfl
    · have h : pdEncV ⟨5, 0, t, 0, b, body, mac⟩ = [10] ++ (beB t 3 ++ (beB b 4 ++ (beB body.length 2 ++ (body ++ (beB mac 8 ++ []))))) := by
        simp [pdEncV, pdTextV, be_one]
      have hlen : ([10] ++ (beB t 3 ++ (beB b 4 ++ (beB body.length 2 ++ (body ++ (beB mac 8 ++ [])))))).length - 8 = 10 + body.length := by simp [be_len]; omega
      have g1 := get_be [10] (beB b 4 ++ (beB body.length 2 ++ (body ++ (beB mac 8 ++ [])))) t 3 T 1 rfl
      have g2 := get_be ([10] ++ beB t 3) (beB body.length 2 ++ (body ++ (beB mac 8 ++ []))) b 4 Bm 4 (by simp [be_len])
      have g4 := get_be ([10] ++ (beB t 3 ++ (beB b 4 ++ (beB body.length 2 ++ body)))) [] mac 8 Mm (10 + body.length) (by simp [be_len]; omega)
      have g5 : (([10] ++ (beB t 3 ++ (beB b 4 ++ (beB body.length 2 ++ (body ++ (beB mac 8 ++ [])))))).take (10 + body.length)).drop 10 = body := by
        have e : [10] ++ (beB t 3 ++ (beB b 4 ++ (beB body.length 2 ++ (body ++ (beB mac 8 ++ []))))) = ([10] ++ (beB t 3 ++ (beB b 4 ++ beB body.length 2))) ++ (body ++ (beB mac 8 ++ [])) := by simp only [List.append_assoc]
        rw [e]
        exact mid_slice _ _ _ _ (by simp [be_len])
      simp only [List.append_assoc] at g1 g2 g4
      rw [h]
      simp only [pdParse, hlen, g1, g2, g4, g5]
      simp
    · have h : pdEncV ⟨5, 1, t, 0, b, body, mac⟩ = [11] ++ (beB t 3 ++ (beB b 4 ++ (beB body.length 2 ++ (body ++ (beB mac 8 ++ []))))) := by
        simp [pdEncV, pdTextV, be_one]
      have hlen : ([11] ++ (beB t 3 ++ (beB b 4 ++ (beB body.length 2 ++ (body ++ (beB mac 8 ++ [])))))).length - 8 = 10 + body.length := by simp [be_len]; omega
      have g1 := get_be [11] (beB b 4 ++ (beB body.length 2 ++ (body ++ (beB mac 8 ++ [])))) t 3 T 1 rfl
      have g2 := get_be ([11] ++ beB t 3) (beB body.length 2 ++ (body ++ (beB mac 8 ++ []))) b 4 Bm 4 (by simp [be_len])
      have g4 := get_be ([11] ++ (beB t 3 ++ (beB b 4 ++ (beB body.length 2 ++ body)))) [] mac 8 Mm (10 + body.length) (by simp [be_len]; omega)
      have g5 : (([11] ++ (beB t 3 ++ (beB b 4 ++ (beB body.length 2 ++ (body ++ (beB mac 8 ++ [])))))).take (10 + body.length)).drop 10 = body := by
        have e : [11] ++ (beB t 3 ++ (beB b 4 ++ (beB body.length 2 ++ (body ++ (beB mac 8 ++ []))))) = ([11] ++ (beB t 3 ++ (beB b 4 ++ beB body.length 2))) ++ (body ++ (beB mac 8 ++ [])) := by simp only [List.append_assoc]
        rw [e]
        exact mid_slice _ _ _ _ (by simp [be_len])
      simp only [List.append_assoc] at g1 g2 g4
      rw [h]
      simp only [pdParse, hlen, g1, g2, g4, g5]
      simp
  · rcases hd with rfl | rfl
    · have h : pdEncV ⟨6, 0, t, 0, b, body, mac⟩ = [12] ++ (beB t 3 ++ (beB b 4 ++ (body ++ (beB mac 8 ++ [])))) := by
        simp [pdEncV, pdTextV, be_one]
      have hlen : ([12] ++ (beB t 3 ++ (beB b 4 ++ (body ++ (beB mac 8 ++ []))))).length - 8 = 8 + body.length := by simp [be_len]; omega
      have g1 := get_be [12] (beB b 4 ++ (body ++ (beB mac 8 ++ []))) t 3 T 1 rfl
      have g2 := get_be ([12] ++ beB t 3) (body ++ (beB mac 8 ++ [])) b 4 Bm 4 (by simp [be_len])
      have g4 := get_be ([12] ++ (beB t 3 ++ (beB b 4 ++ body))) [] mac 8 Mm (8 + body.length) (by simp [be_len]; omega)
      have g5 : (([12] ++ (beB t 3 ++ (beB b 4 ++ (body ++ (beB mac 8 ++ []))))).take (8 + body.length)).drop 8 = body := by
        have e : [12] ++ (beB t 3 ++ (beB b 4 ++ (body ++ (beB mac 8 ++ [])))) = ([12] ++ (beB t 3 ++ beB b 4)) ++ (body ++ (beB mac 8 ++ [])) := by simp only [List.append_assoc]
        rw [e]
        exact mid_slice _ _ _ _ (by simp [be_len])
      simp only [List.append_assoc] at g1 g2 g4
      rw [h]
      simp only [pdParse, hlen, g1, g2, g4, g5]
      simp
    · have h : pdEncV ⟨6, 1, t, 0, b, body, mac⟩ = [13] ++ (beB t 3 ++ (beB b 4 ++ (body ++ (beB mac 8 ++ [])))) := by
        simp [pdEncV, pdTextV, be_one]
      have hlen : ([13] ++ (beB t 3 ++ (beB b 4 ++ (body ++ (beB mac 8 ++ []))))).length - 8 = 8 + body.length := by simp [be_len]; omega
      have g1 := get_be [13] (beB b 4 ++ (body ++ (beB mac 8 ++ []))) t 3 T 1 rfl
      have g2 := get_be ([13] ++ beB t 3) (body ++ (beB mac 8 ++ [])) b 4 Bm 4 (by simp [be_len])
      have g4 := get_be ([13] ++ (beB t 3 ++ (beB b 4 ++ body))) [] mac 8 Mm (8 + body.length) (by simp [be_len]; omega)
      have g5 : (([13] ++ (beB t 3 ++ (beB b 4 ++ (body ++ (beB mac 8 ++ []))))).take (8 + body.length)).drop 8 = body := by
        have e : [13] ++ (beB t 3 ++ (beB b 4 ++ (body ++ (beB mac 8 ++ [])))) = ([13] ++ (beB t 3 ++ beB b 4)) ++ (body ++ (beB mac 8 ++ [])) := by simp only [List.append_assoc]
        rw [e]
        exact mid_slice _ _ _ _ (by simp [be_len])
      simp only [List.append_assoc] at g1 g2 g4
      rw [h]
      simp only [pdParse, hlen, g1, g2, g4, g5]
      simp

theorem pd_dec_enc {p : Pdu} (hk : p.ok) (hm : pdMay p) : pdDec (pdEnc p) = some p := by
  have hp := parse_enc hk hm
  have he : pdEnc p = pdEncV p := by unfold pdEnc; rw [if_pos hm]
  have h1 : 1 ≤ (pdEncV p).length := by
    simp [pdEncV, pdTextV, be_len]
  unfold pdDec
  rw [he, hp, if_pos ⟨h1, hm, he⟩]
theorem pd_dec_only {b : List Nat} {p : Pdu} (h : pdDec b = some p) : pdMay p ∧ pdEnc p = b := by
  unfold pdDec at h
  by_cases hc : 1 ≤ b.length ∧ pdMay (pdParse b) ∧ pdEnc (pdParse b) = b
  · rw [if_pos hc] at h
    injection h with h
    subst h
    exact hc.2
  · rw [if_neg hc] at h; cases h
theorem pd_dec_none {b : List Nat} (h : pdDec b = none) (p : Pdu) (hk : p.ok) (hm : pdMay p) : pdEnc p ≠ b := by
  intro e
  rw [← e, pd_dec_enc hk hm] at h
  cases h
theorem text_8 {p : Pdu} (hb : bytes8 p.body) : bytes8 (pdText p) := by
  have hap : ∀ {x y : List Nat}, bytes8 x → bytes8 y → bytes8 (x ++ y) := fun hx hy v hv => by
    rcases List.mem_append.1 hv with h | h
    · exact hx v h
    · exact hy v h
  have hnil : bytes8 [] := fun v hv => by cases hv
  have hif : ∀ {c : Prop} [Decidable c] {x : List Nat}, bytes8 x → bytes8 (if c then x else []) := fun {c} _ {x} hx => by
    by_cases h : c
    · rw [if_pos h]; exact hx
    · rw [if_neg h]; exact hnil
  unfold pdText pdTextV
  exact hif (hap (be_8 _ _) (hap (be_8 _ _) (hap (hif (be_8 _ _)) (hap (hif (be_8 _ _)) (hap (hif (be_8 _ _)) hb)))))
theorem text_len {p : Pdu} (hm : pdMay p) : (pdText p).length ≤ 1100 := by
  have hbody : p.body.length ≤ 1023 := by
    rcases hm.2.2 with h | h | h | h | h <;> omega
  have hif : ∀ {c : Prop} [Decidable c] (x : List Nat), (if c then x else []).length ≤ x.length := fun {c} _ x => by
    by_cases h : c
    · rw [if_pos h]; exact Nat.le_refl _
    · rw [if_neg h]; exact Nat.zero_le _
  have h1 := hif (c := p.kind ≤ 3) (beB p.a 4)
  have h2 := hif (c := 2 ≤ p.kind) (beB p.b 4)
  have h3 := hif (c := p.kind = 5) (beB p.body.length 2)
  rw [be_len] at h1 h2 h3
  unfold pdText pdTextV
  rw [if_pos hm]
  simp only [List.length_append, be_len]
  omega
def pdSeal (k : Key4) (p : Pdu) : Pdu := if pdMay p ∧ 1 < p.kind then { p with mac := macF k (pdText p) } else p
def pdRight (k : Key4) (p : Pdu) : Prop := pdMay p ∧ 1 < p.kind ∧ p.mac = macF k (pdText p)
instance (k : Key4) (p : Pdu) : Decidable (pdRight k p) := by unfold pdRight; infer_instance
theorem may_mac (p : Pdu) (m : Nat) (h : 1 < p.kind) : pdMay { p with mac := m } ↔ pdMay p := by
  unfold pdMay pdForm
  simp only
  constructor
  · rintro ⟨h0, h1, h2⟩
    refine ⟨h0, h1, ?_⟩
    rcases h2 with h2 | h2
    · omega
    · exact .inr h2
  · rintro ⟨h0, h1, h2⟩
    refine ⟨h0, h1, ?_⟩
    rcases h2 with h2 | h2
    · omega
    · exact .inr h2
theorem text_mac (p : Pdu) (m : Nat) (h : 1 < p.kind) : pdText { p with mac := m } = pdText p := by
  unfold pdText
  by_cases hm : pdMay p
  · rw [if_pos ((may_mac p m h).2 hm), if_pos hm]; rfl
  · rw [if_neg (fun e => hm ((may_mac p m h).1 e)), if_neg hm]
theorem seal_right {k : Key4} {p : Pdu} (hm : pdMay p) (h : 1 < p.kind) : pdRight k (pdSeal k p) := by
  unfold pdSeal
  rw [if_pos ⟨hm, h⟩]
  exact ⟨(may_mac p _ h).2 hm, h, (congrArg (macF k) (text_mac p _ h)).symm⟩
theorem xor_same {x y : Nat} (h : x ^^^ y = x) : y = 0 := by
  have h2 : x ^^^ y = x ^^^ 0 := by rw [h, Nat.xor_zero]
  exact xor_inj_right h2
theorem getD_set_same (l : List Nat) (i v : Nat) (h : i < l.length) : (l.set i v).getD i 0 = v := by
  rw [List.getD_eq_getElem?_getD, List.getElem?_set_self h]; rfl
/-- With one byte turned, what was right is none, or not right. -/
theorem pd_turned {k : Key4} (hk : k.ok) {s q : Pdu} (hs : s.ok) (hr : pdRight k s) (hqo : q.ok) (i y : Nat) (hi : i < (pdEnc s).length) (hy : y ≠ 0) (hq : pdDec ((pdEnc s).set i ((pdEnc s).getD i 0 ^^^ y)) = some q) : ¬ pdRight k q := by
  rintro ⟨hqm, hqk, hqr⟩
  obtain ⟨hsm, hsk, hsr⟩ := hr
  obtain ⟨_, he⟩ := pd_dec_only hq
  have es : pdEnc s = pdText s ++ beB s.mac 8 := by unfold pdEnc pdEncV pdText; rw [if_pos hsm, if_pos hsm, if_pos hsk]
  have eq : pdEnc q = pdText q ++ beB q.mac 8 := by unfold pdEnc pdEncV pdText; rw [if_pos hqm, if_pos hqm, if_pos hqk]
  have hl : (pdText q).length = (pdText s).length := by
    have := congrArg List.length he
    rw [eq, List.length_set, es, List.length_append, List.length_append, be_len, be_len] at this
    omega
  obtain ⟨v, hv⟩ : ∃ v, (pdEnc s).getD i 0 ^^^ y = v := ⟨_, rfl⟩
  have hne : v ≠ (pdEnc s).getD i 0 := fun e => hy (xor_same (hv.trans e))
  rw [hv, eq] at he
  clear hv hq hy
  have e8 : (256 : Nat) ^ 8 = 18446744073709551616 := by decide
  by_cases hlt : i < (pdText s).length
  · rw [es, List.set_append_left _ _ hlt] at he
    obtain ⟨e1, e2⟩ := List.append_inj he (by rw [List.length_set, hl])
    have em : q.mac = s.mac := be_inj (by rw [e8]; exact hqo.2.2.2) (by rw [e8]; exact hs.2.2.2) e2
    rw [hqr, hsr] at em
    have ht := (mac_turned hk (text_8 hs.2.2.1) (text_8 hqo.2.2.1) hl (by have := text_len hsm; omega) (i / 8) (fun p hp => by
      rw [e1, List.getD_eq_getElem?_getD, List.getElem?_set_ne (fun e => hp (by rw [e])), ← List.getD_eq_getElem?_getD])).1 em
    apply hne
    rw [es, List.getD_eq_getElem?_getD, List.getElem?_append_left hlt, ← List.getD_eq_getElem?_getD, ← ht, e1, getD_set_same _ _ _ hlt]
  · rw [es, List.set_append_right _ _ (by omega)] at he
    obtain ⟨e1, e2⟩ := List.append_inj he hl
    have em : q.mac = s.mac := by rw [hqr, hsr, e1]
    rw [em] at e2
    have hi8 : i - (pdText s).length < (beB s.mac 8).length := by
      rw [es, List.length_append] at hi
      omega
    apply hne
    rw [es, List.getD_eq_getElem?_getD, List.getElem?_append_right (by omega), ← List.getD_eq_getElem?_getD]
    rw [e2] at hi8 ⊢
    rw [getD_set_same _ _ _ (by simpa using hi8)]
theorem pow256_4 : (256 : Nat) ^ 4 = 4294967296 := by decide
theorem get_lt {b : List Nat} (hb : bytes8 b) (i m : Nat) : pdGet b i m < 256 ^ m := by
  unfold pdGet
  by_cases h : i + m ≤ b.length
  · rw [if_pos h]; exact chunkT_lt hb i m
  · rw [if_neg h]; exact Nat.pow_pos (by decide)
theorem parse_ok {b : List Nat} (hb : bytes8 b) : (pdParse b).ok := by
  have g1 := get_lt hb 4 4
  have g2 := get_lt hb 8 4
  have g3 := get_lt hb (b.length - 8) 8
  have e8 : (256 : Nat) ^ 8 = 18446744073709551616 := by decide
  rw [pow256_4] at g1 g2
  rw [e8] at g3
  have hsub : ∀ n m, bytes8 ((b.take n).drop m) := fun n m x hx => hb x (List.mem_of_mem_take (List.mem_of_mem_drop hx))
  refine ⟨?_, ?_, ?_, ?_⟩
  · show (if _ then _ else _) < _
    split
    · exact g1
    · decide
  · show (if _ then _ else if _ then _ else _) < _
    split
    · exact g2
    · split
      · exact g1
      · decide
  · show bytes8 (if _ then _ else if _ then _ else _)
    split
    · exact hsub _ _
    · split
      · exact hsub _ _
      · exact fun x hx => by cases hx
  · show (if _ then _ else _) < _
    split
    · exact g3
    · decide
theorem dec_ok {b : List Nat} {p : Pdu} (hb : bytes8 b) (h : pdDec b = some p) : p.ok := by
  unfold pdDec at h
  split at h
  · injection h with h
    subst h
    exact parse_ok hb
  · cases h
end Go.Proofs.Ytojbinpicoeppaa
