/-
  The block cipher over plain numbers: rounds, their inverses, the schedule of keys.
-/
import Derived.Test.YtojbinpicoeppaaRows
namespace Go.Proofs.Ytojbinpicoeppaa

def rl3 (x : Nat) : Nat := x * 8 % 4294967296 + x / 536870912
def rr3 (x : Nat) : Nat := x / 8 + x % 8 * 536870912
def rl8 (x : Nat) : Nat := x * 256 % 4294967296 + x / 16777216
def rr8 (x : Nat) : Nat := x / 256 + x % 256 * 16777216
theorem rl3_lt {x : Nat} (h : x < 4294967296) : rl3 x < 4294967296 := by unfold rl3; omega
theorem rr3_lt {x : Nat} (h : x < 4294967296) : rr3 x < 4294967296 := by unfold rr3; omega
theorem rl8_lt {x : Nat} (h : x < 4294967296) : rl8 x < 4294967296 := by unfold rl8; omega
theorem rr8_lt {x : Nat} (h : x < 4294967296) : rr8 x < 4294967296 := by unfold rr8; omega
theorem rl3_eq {x : Nat} (_h : x < 4294967296) : rl3 x = 8 * (x % 536870912) + x / 536870912 := by unfold rl3; omega
theorem rl8_eq {x : Nat} (_h : x < 4294967296) : rl8 x = 256 * (x % 16777216) + x / 16777216 := by unfold rl8; omega
theorem rr3_at (r d : Nat) (hd : d < 8) : rr3 (8 * r + d) = r + d * 536870912 := by
  unfold rr3
  rw [show (8 * r + d) / 8 = r by omega, show (8 * r + d) % 8 = d by omega]
theorem rr8_at (r d : Nat) (hd : d < 256) : rr8 (256 * r + d) = r + d * 16777216 := by
  unfold rr8
  rw [show (256 * r + d) / 256 = r by omega, show (256 * r + d) % 256 = d by omega]
theorem rl3_at (r d : Nat) (hr : r < 536870912) (hd : d < 8) : rl3 (r + d * 536870912) = 8 * r + d := by
  rw [rl3_eq (by omega), show (r + d * 536870912) % 536870912 = r by omega, show (r + d * 536870912) / 536870912 = d by omega]
theorem rl8_at (r d : Nat) (hr : r < 16777216) (hd : d < 256) : rl8 (r + d * 16777216) = 256 * r + d := by
  rw [rl8_eq (by omega), show (r + d * 16777216) % 16777216 = r by omega, show (r + d * 16777216) / 16777216 = d by omega]
theorem rr3_rl3 {x : Nat} (h : x < 4294967296) : rr3 (rl3 x) = x := by
  rw [rl3_eq h, rr3_at _ _ (by omega)]; omega
theorem rl3_rr3 {x : Nat} (h : x < 4294967296) : rl3 (rr3 x) = x := by
  unfold rr3
  rw [rl3_at _ _ (by omega) (by omega)]; omega
theorem rr8_rl8 {x : Nat} (h : x < 4294967296) : rr8 (rl8 x) = x := by
  rw [rl8_eq h, rr8_at _ _ (by omega)]; omega
theorem rl8_rr8 {x : Nat} (h : x < 4294967296) : rl8 (rr8 x) = x := by
  unfold rr8
  rw [rl8_at _ _ (by omega) (by omega)]; omega
theorem xor32 {a b : Nat} (ha : a < 4294967296) (hb : b < 4294967296) : a ^^^ b < 4294967296 := Nat.xor_lt_two_pow (n := 32) ha hb
theorem xor64 {a b : Nat} (ha : a < 18446744073709551616) (hb : b < 18446744073709551616) : a ^^^ b < 18446744073709551616 := Nat.xor_lt_two_pow (n := 64) ha hb
theorem xor_can (a b : Nat) : a ^^^ b ^^^ b = a := by rw [Nat.xor_assoc, Nat.xor_self, Nat.xor_zero]

/-- A round, and the round backwards. -/
def encR (r : Nat) (p : Nat × Nat) : Nat × Nat := ((rr8 p.1 + p.2) % 4294967296 ^^^ r, rl3 p.2 ^^^ ((rr8 p.1 + p.2) % 4294967296 ^^^ r))
def decR (r : Nat) (p : Nat × Nat) : Nat × Nat := (rl8 (((p.1 ^^^ r) + (4294967296 - rr3 (p.2 ^^^ p.1))) % 4294967296), rr3 (p.2 ^^^ p.1))
def ok2 (p : Nat × Nat) : Prop := p.1 < 4294967296 ∧ p.2 < 4294967296
theorem encR_ok {r : Nat} {p : Nat × Nat} (hr : r < 4294967296) (h : ok2 p) : ok2 (encR r p) := by
  have h1 : (rr8 p.1 + p.2) % 4294967296 ^^^ r < 4294967296 := xor32 (by omega) hr
  exact ⟨h1, xor32 (rl3_lt h.2) h1⟩
theorem decR_ok {r : Nat} {p : Nat × Nat} (_hr : r < 4294967296) (h : ok2 p) : ok2 (decR r p) :=
  ⟨rl8_lt (by omega), rr3_lt (xor32 h.2 h.1)⟩
theorem dec_encR {r : Nat} {p : Nat × Nat} (_hr : r < 4294967296) (h : ok2 p) : decR r (encR r p) = p := by
  obtain ⟨x, y⟩ := p
  obtain ⟨h1, h2⟩ := h
  simp only at h1 h2
  unfold decR encR
  simp only
  rw [xor_can, xor_can, rr3_rl3 h2]
  have h8 := rr8_lt h1
  have e : ((rr8 x + y) % 4294967296 + (4294967296 - y)) % 4294967296 = rr8 x := by omega
  rw [e, rl8_rr8 h1]
theorem enc_decR {r : Nat} {p : Nat × Nat} (hr : r < 4294967296) (h : ok2 p) : encR r (decR r p) = p := by
  obtain ⟨x, y⟩ := p
  obtain ⟨h1, h2⟩ := h
  simp only at h1 h2
  unfold decR encR
  simp only
  have hz : y ^^^ x < 4294967296 := xor32 h2 h1
  obtain ⟨z, hz2⟩ : ∃ z, rr3 (y ^^^ x) = z := ⟨_, rfl⟩
  have hz3 : z < 4294967296 := by rw [← hz2]; exact rr3_lt hz
  have hxr : x ^^^ r < 4294967296 := xor32 h1 hr
  rw [hz2, rr8_rl8 (by omega)]
  have e : (((x ^^^ r) + (4294967296 - z)) % 4294967296 + z) % 4294967296 = x ^^^ r := by omega
  rw [e, xor_can, ← hz2, rl3_rr3 hz, xor_can]

/-! The schedule. -/
structure Key4 where
  a : Nat
  b : Nat
  c : Nat
  d : Nat
def Key4.ok (k : Key4) : Prop := k.a < 4294967296 ∧ k.b < 4294967296 ∧ k.c < 4294967296 ∧ k.d < 4294967296
def kL (a l i : Nat) : Nat := (a + rr8 l) % 4294967296 ^^^ i
/-- The key of round i, and the three words behind it. -/
def ksS (k : Key4) : Nat → Nat × Nat × Nat × Nat
  | 0 => (k.d, k.c, k.b, k.a)
  | i + 1 => match ksS k i with
    | (a, l, m, n) => (rl3 a ^^^ kL a l i, m, n, kL a l i)
def keyAt (k : Key4) (i : Nat) : Nat := (ksS k i).1
def lAt (k : Key4) (i : Nat) : Nat := (ksS k i).2.1
theorem kL_lt {a l i : Nat} (hi : i < 4294967296) : kL a l i < 4294967296 := xor32 (by omega) hi
theorem ksS_ok {k : Key4} (h : k.ok) : ∀ i, i < 4294967296 → (ksS k i).1 < 4294967296 ∧ (ksS k i).2.1 < 4294967296 ∧ (ksS k i).2.2.1 < 4294967296 ∧ (ksS k i).2.2.2 < 4294967296
  | 0, _ => ⟨h.2.2.2, h.2.2.1, h.2.1, h.1⟩
  | i + 1, hi => by
    have ih := ksS_ok h i (by omega)
    rw [ksS]
    obtain ⟨⟨a, l, m, n⟩, hs⟩ : ∃ s, ksS k i = s := ⟨_, rfl⟩
    rw [hs] at ih ⊢
    have hL : kL a l i < 4294967296 := kL_lt (by omega)
    exact ⟨xor32 (rl3_lt ih.1) hL, ih.2.2.1, ih.2.2.2, hL⟩
theorem keyAt_lt {k : Key4} (h : k.ok) {i : Nat} (hi : i < 4294967296) : keyAt k i < 4294967296 := (ksS_ok h i hi).1
theorem lAt_lt {k : Key4} (h : k.ok) {i : Nat} (hi : i < 4294967296) : lAt k i < 4294967296 := (ksS_ok h i hi).2.1
theorem keyAt_zero (k : Key4) : keyAt k 0 = k.d := rfl
theorem lAt_zero (k : Key4) : lAt k 0 = k.c ∧ lAt k 1 = k.b ∧ lAt k 2 = k.a := ⟨rfl, rfl, rfl⟩
theorem lAt_succ (k : Key4) (i : Nat) : lAt k (i + 3) = kL (keyAt k i) (lAt k i) i := by
  unfold lAt keyAt
  rw [ksS, ksS, ksS]
theorem keyAt_succ (k : Key4) (i : Nat) : keyAt k (i + 1) = rl3 (keyAt k i) ^^^ lAt k (i + 3) := by
  rw [lAt_succ]
  unfold lAt keyAt
  rw [ksS]
def roundsF (k : Key4) : List Nat := (List.range 27).map (keyAt k)
theorem rounds_len (k : Key4) : (roundsF k).length = 27 := by simp [roundsF]
theorem rounds_lt {k : Key4} (h : k.ok) : ∀ r ∈ roundsF k, r < 4294967296 := by
  intro r hr
  obtain ⟨i, hi, rfl⟩ := List.mem_map.1 hr
  rw [List.mem_range] at hi
  exact keyAt_lt h (by omega)
theorem rounds_at (k : Key4) {i : Nat} (h : i < 27) : (roundsF k)[i]? = some (keyAt k i) := by
  unfold roundsF
  rw [List.getElem?_map, List.getElem?_range h]
  rfl

/-! The cipher. -/
attribute [local irreducible] encR decR
def encL (ks : List Nat) (p : Nat × Nat) : Nat × Nat := ks.foldl (fun p r => encR r p) p
def decL (ks : List Nat) (p : Nat × Nat) : Nat × Nat := ks.foldr (fun r p => decR r p) p
theorem encL_nil (p : Nat × Nat) : encL [] p = p := by unfold encL; rw [List.foldl_nil]
theorem decL_nil (p : Nat × Nat) : decL [] p = p := by unfold decL; rw [List.foldr_nil]
theorem encL_cons (r : Nat) (ks : List Nat) (p : Nat × Nat) : encL (r :: ks) p = encL ks (encR r p) := by unfold encL; rw [List.foldl_cons]
theorem decL_cons (r : Nat) (ks : List Nat) (p : Nat × Nat) : decL (r :: ks) p = decR r (decL ks p) := by unfold decL; rw [List.foldr_cons]
theorem encL_ok : ∀ (ks : List Nat) (p : Nat × Nat), (∀ r ∈ ks, r < 4294967296) → ok2 p → ok2 (encL ks p)
  | [], _, _, h => by rw [encL_nil]; exact h
  | r :: ks, p, hk, h => by
    rw [encL_cons]
    exact encL_ok ks (encR r p) (fun x hx => hk x (by simp [hx])) (encR_ok (hk r (by simp)) h)
theorem decL_ok : ∀ (ks : List Nat) (p : Nat × Nat), (∀ r ∈ ks, r < 4294967296) → ok2 p → ok2 (decL ks p)
  | [], _, _, h => by rw [decL_nil]; exact h
  | r :: ks, p, hk, h => by
    rw [decL_cons]
    exact decR_ok (hk r (by simp)) (decL_ok ks p (fun x hx => hk x (by simp [hx])) h)
theorem dec_encL : ∀ (ks : List Nat) (p : Nat × Nat), (∀ r ∈ ks, r < 4294967296) → ok2 p → decL ks (encL ks p) = p
  | [], _, _, _ => by rw [encL_nil, decL_nil]
  | r :: ks, p, hk, h => by
    have ih := dec_encL ks (encR r p) (fun x hx => hk x (by simp [hx])) (encR_ok (hk r (by simp)) h)
    rw [encL_cons, decL_cons, ih, dec_encR (hk r (by simp)) h]
theorem enc_decL : ∀ (ks : List Nat) (p : Nat × Nat), (∀ r ∈ ks, r < 4294967296) → ok2 p → encL ks (decL ks p) = p
  | [], _, _, _ => by rw [decL_nil, encL_nil]
  | r :: ks, p, hk, h => by
    have hd := decL_ok ks p (fun x hx => hk x (by simp [hx])) h
    rw [decL_cons, encL_cons, enc_decR (hk r (by simp)) hd]
    exact enc_decL ks p (fun x hx => hk x (by simp [hx])) h
theorem encL_app : ∀ (a b : List Nat) (p : Nat × Nat), encL (a ++ b) p = encL b (encL a p)
  | [], b, p => by rw [List.nil_append, encL_nil]
  | r :: a, b, p => by rw [List.cons_append, encL_cons, encL_cons, encL_app]
theorem decL_app : ∀ (a b : List Nat) (p : Nat × Nat), decL (a ++ b) p = decL a (decL b p)
  | [], b, p => by rw [List.nil_append, decL_nil]
  | r :: a, b, p => by rw [List.cons_append, decL_cons, decL_cons, decL_app]
def ofB (b : Nat) : Nat × Nat := (b / 4294967296, b % 4294967296)
def toB (p : Nat × Nat) : Nat := p.1 * 4294967296 + p.2
theorem ofB_ok {b : Nat} (h : b < 18446744073709551616) : ok2 (ofB b) := by
  constructor
  · show b / 4294967296 < 4294967296
    omega
  · show b % 4294967296 < 4294967296
    omega
theorem toB_lt {p : Nat × Nat} (h : ok2 p) : toB p < 18446744073709551616 := by
  have h1 := h.1
  have h2 := h.2
  unfold toB
  omega
theorem toB_ofB (b : Nat) : toB (ofB b) = b := by
  show b / 4294967296 * 4294967296 + b % 4294967296 = b
  omega
theorem ofB_toB {p : Nat × Nat} (h : ok2 p) : ofB (toB p) = p := by
  obtain ⟨x, y⟩ := p
  have h1 : x < 4294967296 := h.1
  have h2 : y < 4294967296 := h.2
  show ((x * 4294967296 + y) / 4294967296, (x * 4294967296 + y) % 4294967296) = (x, y)
  rw [show (x * 4294967296 + y) / 4294967296 = x by omega, show (x * 4294967296 + y) % 4294967296 = y by omega]
def encF7 (k : Key4) (b : Nat) : Nat := toB (encL (roundsF k) (ofB b))
def decF7 (k : Key4) (b : Nat) : Nat := toB (decL (roundsF k) (ofB b))
theorem encF7_lt {k : Key4} (hk : k.ok) {b : Nat} (h : b < 18446744073709551616) : encF7 k b < 18446744073709551616 := toB_lt (encL_ok _ _ (rounds_lt hk) (ofB_ok h))
theorem decF7_lt {k : Key4} (hk : k.ok) {b : Nat} (h : b < 18446744073709551616) : decF7 k b < 18446744073709551616 := toB_lt (decL_ok _ _ (rounds_lt hk) (ofB_ok h))
theorem dec_enc7 {k : Key4} (hk : k.ok) {b : Nat} (h : b < 18446744073709551616) : decF7 k (encF7 k b) = b := by
  unfold decF7 encF7
  rw [ofB_toB (encL_ok _ _ (rounds_lt hk) (ofB_ok h)), dec_encL _ _ (rounds_lt hk) (ofB_ok h), toB_ofB]
theorem enc_dec7 {k : Key4} (hk : k.ok) {b : Nat} (h : b < 18446744073709551616) : encF7 k (decF7 k b) = b := by
  unfold decF7 encF7
  rw [ofB_toB (decL_ok _ _ (rounds_lt hk) (ofB_ok h)), enc_decL _ _ (rounds_lt hk) (ofB_ok h), toB_ofB]
theorem enc_inj7 {k : Key4} (hk : k.ok) {a b : Nat} (ha : a < 18446744073709551616) (hb : b < 18446744073709551616) : encF7 k a = encF7 k b ↔ a = b :=
  ⟨fun h => by rw [← dec_enc7 hk ha, h, dec_enc7 hk hb], fun h => by rw [h]⟩
theorem dec_inj7 {k : Key4} (hk : k.ok) {a b : Nat} (ha : a < 18446744073709551616) (hb : b < 18446744073709551616) : decF7 k a = decF7 k b ↔ a = b :=
  ⟨fun h => by rw [← enc_dec7 hk ha, h, enc_dec7 hk hb], fun h => by rw [h]⟩
theorem encL_take (ks : List Nat) (p : Nat × Nat) (i : Nat) (r : Nat) (h : ks[i]? = some r) : encL (ks.take (i + 1)) p = encR r (encL (ks.take i) p) := by
  obtain ⟨h1, h2⟩ := List.getElem?_eq_some_iff.1 h
  rw [List.take_succ_eq_append_getElem h1, h2, encL_app, encL_cons, encL_nil]
theorem decL_drop (ks : List Nat) (p : Nat × Nat) (i : Nat) (r : Nat) (h : ks[i]? = some r) : decL (ks.drop i) p = decR r (decL (ks.drop (i + 1)) p) := by
  obtain ⟨h1, h2⟩ := List.getElem?_eq_some_iff.1 h
  rw [List.drop_eq_getElem_cons h1, h2, decL_cons]
theorem first7 {k q : Key4} (h : roundsF k = roundsF q) : k.d = q.d := by
  have := congrArg (fun l => l[0]?) h
  simp only [rounds_at _ (show 0 < 27 by omega), keyAt_zero, Option.some.injEq] at this
  exact this
/-! Reckoned: each number by itself before it is used. -/
def force {α : Type} (n : Nat) (f : Nat → α) : α := Nat.rec (motive := fun _ => α) (f 0) (fun m _ => f (m + 1)) n
theorem force_eq {α : Type} (n : Nat) (f : Nat → α) : force n f = f n := by cases n <;> rfl
def ksGo : Nat → Nat → Nat → Nat → Nat → Nat → List Nat
  | 0, _, _, _, _, _ => []
  | q + 1, i, a, l, m, n => a :: force (kL a l i) fun L => force (rl3 a ^^^ L) fun b => force (i + 1) fun j => ksGo q j b m n L
def encGo : List Nat → Nat → Nat → Nat × Nat
  | [], x, y => (x, y)
  | r :: ks, x, y => force ((rr8 x + y) % 4294967296 ^^^ r) fun u => force (rl3 y ^^^ u) fun v => encGo ks u v
def decGo : List Nat → Nat → Nat → Nat × Nat
  | [], x, y => (x, y)
  | r :: ks, x, y => force (rr3 (y ^^^ x)) fun v => force (rl8 (((x ^^^ r) + (4294967296 - v)) % 4294967296)) fun u => decGo ks u v
theorem ksGo_eq (k : Key4) : ∀ (q i : Nat), ksGo q i (ksS k i).1 (ksS k i).2.1 (ksS k i).2.2.1 (ksS k i).2.2.2 = (List.range' i q).map (keyAt k)
  | 0, i => rfl
  | q + 1, i => by
    have ih := ksGo_eq k q (i + 1)
    rw [ksGo, List.range'_succ, List.map_cons]
    simp only [force_eq]
    rw [← ih, ksS, keyAt]
theorem encGo_eq : ∀ (ks : List Nat) (x y : Nat), encGo ks x y = encL ks (x, y)
  | [], _, _ => by rw [encGo, encL_nil]
  | r :: ks, x, y => by
    rw [encGo]
    simp only [force_eq]
    rw [encGo_eq, encL_cons, encR]
theorem decGo_eq : ∀ (ks : List Nat) (x y : Nat), decGo ks x y = decL ks.reverse (x, y)
  | [], _, _ => by rw [decGo, List.reverse_nil, decL_nil]
  | r :: ks, x, y => by
    rw [decGo]
    simp only [force_eq]
    rw [decGo_eq, List.reverse_cons, decL_app, decL_cons, decL_nil, decR]
theorem rounds_go (k : Key4) : roundsF k = ksGo 27 0 k.d k.c k.b k.a := by
  have h := ksGo_eq k 27 0
  unfold roundsF
  rw [List.range_eq_range']
  exact h.symm
def enc7 (k : Key4) (b : Nat) : Nat := force (b / 4294967296) fun x => force (b % 4294967296) fun y => toB (encGo (ksGo 27 0 k.d k.c k.b k.a) x y)
def dec7 (k : Key4) (b : Nat) : Nat := force (b / 4294967296) fun x => force (b % 4294967296) fun y => toB (decGo (ksGo 27 0 k.d k.c k.b k.a).reverse x y)
theorem enc7_eq (k : Key4) (b : Nat) : encF7 k b = enc7 k b := by
  unfold encF7 enc7
  simp only [force_eq]
  rw [encGo_eq, ← rounds_go, ofB]
theorem dec7_eq (k : Key4) (b : Nat) : decF7 k b = dec7 k b := by
  unfold decF7 dec7
  simp only [force_eq]
  rw [decGo_eq, List.reverse_reverse, ← rounds_go, ofB]
/-- The chapter's example. -/
theorem speck_example : encF7 ⟨0x1b1a1918, 0x13121110, 0x0b0a0908, 0x03020100⟩ 0x3b7265747475432d = 0x8c6fa548454e028b := by rw [enc7_eq]; decide +kernel
theorem speck_back : decF7 ⟨0x1b1a1918, 0x13121110, 0x0b0a0908, 0x03020100⟩ 0x8c6fa548454e028b = 0x3b7265747475432d := by rw [dec7_eq]; decide +kernel
end Go.Proofs.Ytojbinpicoeppaa
