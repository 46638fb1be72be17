/-
  CiMath, McMath, PdMath, ShMath: merged.
-/
import Derived.Test.YtekcnmimfhiblaaRows

/-
  The block cipher over plain numbers: rounds, their inverses, the schedule of keys.
-/
namespace Go.Proofs.Ytekcnmimfhiblaa

def rl3 (x : Nat) : Nat := x * 8 % 4294967296 + x / 536870912
def rr3 (x : Nat) : Nat := x / 8 + x % 8 * 536870912
def rl8 (x : Nat) : Nat := x * 256 % 4294967296 + x / 16777216
def rr8 (x : Nat) : Nat := x / 256 + x % 256 * 16777216
theorem rl3_lt {x : Nat} (h : x < 4294967296) : rl3 x < 4294967296 := by unfold rl3; omega
theorem rr3_lt {x : Nat} (h : x < 4294967296) : rr3 x < 4294967296 := by unfold rr3; omega
theorem rl8_lt {x : Nat} (h : x < 4294967296) : rl8 x < 4294967296 := by unfold rl8; omega
theorem rr8_lt {x : Nat} (h : x < 4294967296) : rr8 x < 4294967296 := by unfold rr8; omega
theorem rl3_eq {x : Nat} (_h : x < 4294967296) : rl3 x = 8 * (x % 536870912) + x / 536870912 := by unfold rl3; omega
theorem rl8_eq {x : Nat} (_h : x < 4294967296) : rl8 x = 256 * (x % 16777216) + x / 16777216 := by unfold rl8; omega
theorem rr3_at (r d : Nat) (hd : d < 8) : rr3 (8 * r + d) = r + d * 536870912 := by
  unfold rr3
  rw [show (8 * r + d) / 8 = r by omega, show (8 * r + d) % 8 = d by omega]
theorem rr8_at (r d : Nat) (hd : d < 256) : rr8 (256 * r + d) = r + d * 16777216 := by
  unfold rr8
  rw [show (256 * r + d) / 256 = r by omega, show (256 * r + d) % 256 = d by omega]
theorem rl3_at (r d : Nat) (hr : r < 536870912) (hd : d < 8) : rl3 (r + d * 536870912) = 8 * r + d := by
  rw [rl3_eq (by omega), show (r + d * 536870912) % 536870912 = r by omega, show (r + d * 536870912) / 536870912 = d by omega]
theorem rl8_at (r d : Nat) (hr : r < 16777216) (hd : d < 256) : rl8 (r + d * 16777216) = 256 * r + d := by
  rw [rl8_eq (by omega), show (r + d * 16777216) % 16777216 = r by omega, show (r + d * 16777216) / 16777216 = d by omega]
theorem rr3_rl3 {x : Nat} (h : x < 4294967296) : rr3 (rl3 x) = x := by
  rw [rl3_eq h, rr3_at _ _ (by omega)]; omega
theorem rl3_rr3 {x : Nat} (h : x < 4294967296) : rl3 (rr3 x) = x := by
  unfold rr3
  rw [rl3_at _ _ (by omega) (by omega)]; omega
theorem rr8_rl8 {x : Nat} (h : x < 4294967296) : rr8 (rl8 x) = x := by
  rw [rl8_eq h, rr8_at _ _ (by omega)]; omega
theorem rl8_rr8 {x : Nat} (h : x < 4294967296) : rl8 (rr8 x) = x := by
  unfold rr8
  rw [rl8_at _ _ (by omega) (by omega)]; omega
theorem xor32 {a b : Nat} (ha : a < 4294967296) (hb : b < 4294967296) : a ^^^ b < 4294967296 := Nat.xor_lt_two_pow (n := 32) ha hb
theorem xor64 {a b : Nat} (ha : a < 18446744073709551616) (hb : b < 18446744073709551616) : a ^^^ b < 18446744073709551616 := Nat.xor_lt_two_pow (n := 64) ha hb
theorem xor_can (a b : Nat) : a ^^^ b ^^^ b = a := by rw [Nat.xor_assoc, Nat.xor_self, Nat.xor_zero]

/-- A round, and the round backwards. -/
def encR (r : Nat) (p : Nat × Nat) : Nat × Nat := ((rr8 p.1 + p.2) % 4294967296 ^^^ r, rl3 p.2 ^^^ ((rr8 p.1 + p.2) % 4294967296 ^^^ r))
def decR (r : Nat) (p : Nat × Nat) : Nat × Nat := (rl8 (((p.1 ^^^ r) + (4294967296 - rr3 (p.2 ^^^ p.1))) % 4294967296), rr3 (p.2 ^^^ p.1))
def ok2 (p : Nat × Nat) : Prop := p.1 < 4294967296 ∧ p.2 < 4294967296
theorem encR_ok {r : Nat} {p : Nat × Nat} (hr : r < 4294967296) (h : ok2 p) : ok2 (encR r p) := by
  have h1 : (rr8 p.1 + p.2) % 4294967296 ^^^ r < 4294967296 := xor32 (by omega) hr
  exact ⟨h1, xor32 (rl3_lt h.2) h1⟩
theorem decR_ok {r : Nat} {p : Nat × Nat} (_hr : r < 4294967296) (h : ok2 p) : ok2 (decR r p) :=
  ⟨rl8_lt (by omega), rr3_lt (xor32 h.2 h.1)⟩
theorem dec_encR {r : Nat} {p : Nat × Nat} (_hr : r < 4294967296) (h : ok2 p) : decR r (encR r p) = p := by
  obtain ⟨x, y⟩ := p
  obtain ⟨h1, h2⟩ := h
  simp only at h1 h2
  unfold decR encR
  simp only
  rw [xor_can, xor_can, rr3_rl3 h2]
  have h8 := rr8_lt h1
  have e : ((rr8 x + y) % 4294967296 + (4294967296 - y)) % 4294967296 = rr8 x := by omega
  rw [e, rl8_rr8 h1]
theorem enc_decR {r : Nat} {p : Nat × Nat} (hr : r < 4294967296) (h : ok2 p) : encR r (decR r p) = p := by
  obtain ⟨x, y⟩ := p
  obtain ⟨h1, h2⟩ := h
  simp only at h1 h2
  unfold decR encR
  simp only
  have hz : y ^^^ x < 4294967296 := xor32 h2 h1
  obtain ⟨z, hz2⟩ : ∃ z, rr3 (y ^^^ x) = z := ⟨_, rfl⟩
  have hz3 : z < 4294967296 := by rw [← hz2]; exact rr3_lt hz
  have hxr : x ^^^ r < 4294967296 := xor32 h1 hr
  rw [hz2, rr8_rl8 (by omega)]
  have e : (((x ^^^ r) + (4294967296 - z)) % 4294967296 + z) % 4294967296 = x ^^^ r := by omega
  rw [e, xor_can, ← hz2, rl3_rr3 hz, xor_can]

/-! The schedule. -/
structure Key4 where
  a : Nat
  b : Nat
  c : Nat
  d : Nat
def Key4.ok (k : Key4) : Prop := k.a < 4294967296 ∧ k.b < 4294967296 ∧ k.c < 4294967296 ∧ k.d < 4294967296
def kL (a l i : Nat) : Nat := (a + rr8 l) % 4294967296 ^^^ i
/-- The key of round i, and the three words behind it. -/
def ksS (k : Key4) : Nat → Nat × Nat × Nat × Nat
  | 0 => (k.d, k.c, k.b, k.a)
  | i + 1 => match ksS k i with
    | (a, l, m, n) => (rl3 a ^^^ kL a l i, m, n, kL a l i)
def keyAt (k : Key4) (i : Nat) : Nat := (ksS k i).1
def lAt (k : Key4) (i : Nat) : Nat := (ksS k i).2.1
theorem kL_lt {a l i : Nat} (hi : i < 4294967296) : kL a l i < 4294967296 := xor32 (by omega) hi
theorem ksS_ok {k : Key4} (h : k.ok) : ∀ i, i < 4294967296 → (ksS k i).1 < 4294967296 ∧ (ksS k i).2.1 < 4294967296 ∧ (ksS k i).2.2.1 < 4294967296 ∧ (ksS k i).2.2.2 < 4294967296
  | 0, _ => ⟨h.2.2.2, h.2.2.1, h.2.1, h.1⟩
  | i + 1, hi => by
    have ih := ksS_ok h i (by omega)
    rw [ksS]
    obtain ⟨⟨a, l, m, n⟩, hs⟩ : ∃ s, ksS k i = s := ⟨_, rfl⟩
    rw [hs] at ih ⊢
    have hL : kL a l i < 4294967296 := kL_lt (by omega)
    exact ⟨xor32 (rl3_lt ih.1) hL, ih.2.2.1, ih.2.2.2, hL⟩
theorem keyAt_lt {k : Key4} (h : k.ok) {i : Nat} (hi : i < 4294967296) : keyAt k i < 4294967296 := (ksS_ok h i hi).1
theorem lAt_lt {k : Key4} (h : k.ok) {i : Nat} (hi : i < 4294967296) : lAt k i < 4294967296 := (ksS_ok h i hi).2.1
theorem keyAt_zero (k : Key4) : keyAt k 0 = k.d := rfl
theorem lAt_zero (k : Key4) : lAt k 0 = k.c ∧ lAt k 1 = k.b ∧ lAt k 2 = k.a := ⟨rfl, rfl, rfl⟩
theorem lAt_succ (k : Key4) (i : Nat) : lAt k (i + 3) = kL (keyAt k i) (lAt k i) i := by
  unfold lAt keyAt
  rw [ksS, ksS, ksS]
theorem keyAt_succ (k : Key4) (i : Nat) : keyAt k (i + 1) = rl3 (keyAt k i) ^^^ lAt k (i + 3) := by
  rw [lAt_succ]
  unfold lAt keyAt
  rw [ksS]
def roundsF (k : Key4) : List Nat := (List.range 27).map (keyAt k)
theorem rounds_len (k : Key4) : (roundsF k).length = 27 := by simp [roundsF]
theorem rounds_lt {k : Key4} (h : k.ok) : ∀ r ∈ roundsF k, r < 4294967296 := by
  intro r hr
  obtain ⟨i, hi, rfl⟩ := List.mem_map.1 hr
  rw [List.mem_range] at hi
  exact keyAt_lt h (by omega)
theorem rounds_at (k : Key4) {i : Nat} (h : i < 27) : (roundsF k)[i]? = some (keyAt k i) := by
  unfold roundsF
  rw [List.getElem?_map, List.getElem?_range h]
  rfl

/-! The cipher. -/
attribute [local irreducible] encR decR
def encL (ks : List Nat) (p : Nat × Nat) : Nat × Nat := ks.foldl (fun p r => encR r p) p
def decL (ks : List Nat) (p : Nat × Nat) : Nat × Nat := ks.foldr (fun r p => decR r p) p
theorem encL_nil (p : Nat × Nat) : encL [] p = p := by unfold encL; rw [List.foldl_nil]
theorem decL_nil (p : Nat × Nat) : decL [] p = p := by unfold decL; rw [List.foldr_nil]
theorem encL_cons (r : Nat) (ks : List Nat) (p : Nat × Nat) : encL (r :: ks) p = encL ks (encR r p) := by unfold encL; rw [List.foldl_cons]
theorem decL_cons (r : Nat) (ks : List Nat) (p : Nat × Nat) : decL (r :: ks) p = decR r (decL ks p) := by unfold decL; rw [List.foldr_cons]
theorem encL_ok : ∀ (ks : List Nat) (p : Nat × Nat), (∀ r ∈ ks, r < 4294967296) → ok2 p → ok2 (encL ks p)
  | [], _, _, h => by rw [encL_nil]; exact h
  | r :: ks, p, hk, h => by
    rw [encL_cons]
    exact encL_ok ks (encR r p) (fun x hx => hk x (by simp [hx])) (encR_ok (hk r (by simp)) h)
theorem decL_ok : ∀ (ks : List Nat) (p : Nat × Nat), (∀ r ∈ ks, r < 4294967296) → ok2 p → ok2 (decL ks p)
  | [], _, _, h => by rw [decL_nil]; exact h
  | r :: ks, p, hk, h => by
    rw [decL_cons]
    exact decR_ok (hk r (by simp)) (decL_ok ks p (fun x hx => hk x (by simp [hx])) h)
theorem dec_encL : ∀ (ks : List Nat) (p : Nat × Nat), (∀ r ∈ ks, r < 4294967296) → ok2 p → decL ks (encL ks p) = p
  | [], _, _, _ => by rw [encL_nil, decL_nil]
  | r :: ks, p, hk, h => by
    have ih := dec_encL ks (encR r p) (fun x hx => hk x (by simp [hx])) (encR_ok (hk r (by simp)) h)
    rw [encL_cons, decL_cons, ih, dec_encR (hk r (by simp)) h]
theorem enc_decL : ∀ (ks : List Nat) (p : Nat × Nat), (∀ r ∈ ks, r < 4294967296) → ok2 p → encL ks (decL ks p) = p
  | [], _, _, _ => by rw [decL_nil, encL_nil]
  | r :: ks, p, hk, h => by
    have hd := decL_ok ks p (fun x hx => hk x (by simp [hx])) h
    rw [decL_cons, encL_cons, enc_decR (hk r (by simp)) hd]
    exact enc_decL ks p (fun x hx => hk x (by simp [hx])) h
theorem encL_app : ∀ (a b : List Nat) (p : Nat × Nat), encL (a ++ b) p = encL b (encL a p)
  | [], b, p => by rw [List.nil_append, encL_nil]
  | r :: a, b, p => by rw [List.cons_append, encL_cons, encL_cons, encL_app]
theorem decL_app : ∀ (a b : List Nat) (p : Nat × Nat), decL (a ++ b) p = decL a (decL b p)
  | [], b, p => by rw [List.nil_append, decL_nil]
  | r :: a, b, p => by rw [List.cons_append, decL_cons, decL_cons, decL_app]
def ofB (b : Nat) : Nat × Nat := (b / 4294967296, b % 4294967296)
def toB (p : Nat × Nat) : Nat := p.1 * 4294967296 + p.2
theorem ofB_ok {b : Nat} (h : b < 18446744073709551616) : ok2 (ofB b) := by
  constructor
  · show b / 4294967296 < 4294967296
    omega
  · show b % 4294967296 < 4294967296
    omega
theorem toB_lt {p : Nat × Nat} (h : ok2 p) : toB p < 18446744073709551616 := by
  have h1 := h.1
  have h2 := h.2
  unfold toB
  omega
theorem toB_ofB (b : Nat) : toB (ofB b) = b := by
  show b / 4294967296 * 4294967296 + b % 4294967296 = b
  omega
theorem ofB_toB {p : Nat × Nat} (h : ok2 p) : ofB (toB p) = p := by
  obtain ⟨x, y⟩ := p
  have h1 : x < 4294967296 := h.1
  have h2 : y < 4294967296 := h.2
  show ((x * 4294967296 + y) / 4294967296, (x * 4294967296 + y) % 4294967296) = (x, y)
  rw [show (x * 4294967296 + y) / 4294967296 = x by omega, show (x * 4294967296 + y) % 4294967296 = y by omega]
def encF7 (k : Key4) (b : Nat) : Nat := toB (encL (roundsF k) (ofB b))
def decF7 (k : Key4) (b : Nat) : Nat := toB (decL (roundsF k) (ofB b))
theorem encF7_lt {k : Key4} (hk : k.ok) {b : Nat} (h : b < 18446744073709551616) : encF7 k b < 18446744073709551616 := toB_lt (encL_ok _ _ (rounds_lt hk) (ofB_ok h))
theorem decF7_lt {k : Key4} (hk : k.ok) {b : Nat} (h : b < 18446744073709551616) : decF7 k b < 18446744073709551616 := toB_lt (decL_ok _ _ (rounds_lt hk) (ofB_ok h))
theorem dec_enc7 {k : Key4} (hk : k.ok) {b : Nat} (h : b < 18446744073709551616) : decF7 k (encF7 k b) = b := by
  unfold decF7 encF7
  rw [ofB_toB (encL_ok _ _ (rounds_lt hk) (ofB_ok h)), dec_encL _ _ (rounds_lt hk) (ofB_ok h), toB_ofB]
theorem enc_dec7 {k : Key4} (hk : k.ok) {b : Nat} (h : b < 18446744073709551616) : encF7 k (decF7 k b) = b := by
  unfold decF7 encF7
  rw [ofB_toB (decL_ok _ _ (rounds_lt hk) (ofB_ok h)), enc_decL _ _ (rounds_lt hk) (ofB_ok h), toB_ofB]
theorem enc_inj7 {k : Key4} (hk : k.ok) {a b : Nat} (ha : a < 18446744073709551616) (hb : b < 18446744073709551616) : encF7 k a = encF7 k b ↔ a = b :=
  ⟨fun h => by rw [← dec_enc7 hk ha, h, dec_enc7 hk hb], fun h => by rw [h]⟩
theorem dec_inj7 {k : Key4} (hk : k.ok) {a b : Nat} (ha : a < 18446744073709551616) (hb : b < 18446744073709551616) : decF7 k a = decF7 k b ↔ a = b :=
  ⟨fun h => by rw [← enc_dec7 hk ha, h, enc_dec7 hk hb], fun h => by rw [h]⟩
theorem encL_take (ks : List Nat) (p : Nat × Nat) (i : Nat) (r : Nat) (h : ks[i]? = some r) : encL (ks.take (i + 1)) p = encR r (encL (ks.take i) p) := by
  obtain ⟨h1, h2⟩ := List.getElem?_eq_some_iff.1 h
  rw [List.take_succ_eq_append_getElem h1, h2, encL_app, encL_cons, encL_nil]
theorem decL_drop (ks : List Nat) (p : Nat × Nat) (i : Nat) (r : Nat) (h : ks[i]? = some r) : decL (ks.drop i) p = decR r (decL (ks.drop (i + 1)) p) := by
  obtain ⟨h1, h2⟩ := List.getElem?_eq_some_iff.1 h
  rw [List.drop_eq_getElem_cons h1, h2, decL_cons]
theorem first7 {k q : Key4} (h : roundsF k = roundsF q) : k.d = q.d := by
  have := congrArg (fun l => l[0]?) h
  simp only [rounds_at _ (show 0 < 27 by omega), keyAt_zero, Option.some.injEq] at this
  exact this
/-! Reckoned: each number by itself before it is used. -/
def force {α : Type} (n : Nat) (f : Nat → α) : α := Nat.rec (motive := fun _ => α) (f 0) (fun m _ => f (m + 1)) n
theorem force_eq {α : Type} (n : Nat) (f : Nat → α) : force n f = f n := by cases n <;> rfl
def ksGo : Nat → Nat → Nat → Nat → Nat → Nat → List Nat
  | 0, _, _, _, _, _ => []
  | q + 1, i, a, l, m, n => a :: force (kL a l i) fun L => force (rl3 a ^^^ L) fun b => force (i + 1) fun j => ksGo q j b m n L
def encGo : List Nat → Nat → Nat → Nat × Nat
  | [], x, y => (x, y)
  | r :: ks, x, y => force ((rr8 x + y) % 4294967296 ^^^ r) fun u => force (rl3 y ^^^ u) fun v => encGo ks u v
def decGo : List Nat → Nat → Nat → Nat × Nat
  | [], x, y => (x, y)
  | r :: ks, x, y => force (rr3 (y ^^^ x)) fun v => force (rl8 (((x ^^^ r) + (4294967296 - v)) % 4294967296)) fun u => decGo ks u v
theorem ksGo_eq (k : Key4) : ∀ (q i : Nat), ksGo q i (ksS k i).1 (ksS k i).2.1 (ksS k i).2.2.1 (ksS k i).2.2.2 = (List.range' i q).map (keyAt k)
  | 0, i => rfl
  | q + 1, i => by
    have ih := ksGo_eq k q (i + 1)
    rw [ksGo, List.range'_succ, List.map_cons]
    simp only [force_eq]
    rw [← ih, ksS, keyAt]
theorem encGo_eq : ∀ (ks : List Nat) (x y : Nat), encGo ks x y = encL ks (x, y)
  | [], _, _ => by rw [encGo, encL_nil]
  | r :: ks, x, y => by
    rw [encGo]
    simp only [force_eq]
    rw [encGo_eq, encL_cons, encR]
theorem decGo_eq : ∀ (ks : List Nat) (x y : Nat), decGo ks x y = decL ks.reverse (x, y)
  | [], _, _ => by rw [decGo, List.reverse_nil, decL_nil]
  | r :: ks, x, y => by
    rw [decGo]
    simp only [force_eq]
    rw [decGo_eq, List.reverse_cons, decL_app, decL_cons, decL_nil, decR]
theorem rounds_go (k : Key4) : roundsF k = ksGo 27 0 k.d k.c k.b k.a := by
  have h := ksGo_eq k 27 0
  unfold roundsF
  rw [List.range_eq_range']
  exact h.symm
def enc7 (k : Key4) (b : Nat) : Nat := force (b / 4294967296) fun x => force (b % 4294967296) fun y => toB (encGo (ksGo 27 0 k.d k.c k.b k.a) x y)
def dec7 (k : Key4) (b : Nat) : Nat := force (b / 4294967296) fun x => force (b % 4294967296) fun y => toB (decGo (ksGo 27 0 k.d k.c k.b k.a).reverse x y)
theorem enc7_eq (k : Key4) (b : Nat) : encF7 k b = enc7 k b := by
  unfold encF7 enc7
  simp only [force_eq]
  rw [encGo_eq, ← rounds_go, ofB]
theorem dec7_eq (k : Key4) (b : Nat) : decF7 k b = dec7 k b := by
  unfold decF7 dec7
  simp only [force_eq]
  rw [decGo_eq, List.reverse_reverse, ← rounds_go, ofB]
/-- The chapter's example. -/
theorem speck_example : encF7 ⟨0x1b1a1918, 0x13121110, 0x0b0a0908, 0x03020100⟩ 0x3b7265747475432d = 0x8c6fa548454e028b := by rw [enc7_eq]; decide +kernel
theorem speck_back : decF7 ⟨0x1b1a1918, 0x13121110, 0x0b0a0908, 0x03020100⟩ 0x8c6fa548454e028b = 0x3b7265747475432d := by rw [dec7_eq]; decide +kernel
end Go.Proofs.Ytekcnmimfhiblaa

/-
  The Mac over plain numbers: blocks, the chain, what a turned block does; derived keys.
-/
namespace Go.Proofs.Ytekcnmimfhiblaa

/-- The number that the first t bytes from a place on are; a byte that is not there is 0. -/
def chunkT (xs : List Nat) (i : Nat) : Nat → Nat
  | 0 => 0
  | t + 1 => chunkT xs i t * 256 + xs.getD (i + t) 0
def bytes8 (xs : List Nat) : Prop := ∀ x ∈ xs, x < 256
theorem getD_lt {xs : List Nat} (h : bytes8 xs) (i : Nat) : xs.getD i 0 < 256 := by
  rw [List.getD_eq_getElem?_getD]
  by_cases hi : i < xs.length
  · rw [List.getElem?_eq_getElem hi]
    exact h _ (List.getElem_mem hi)
  · rw [List.getElem?_eq_none (by omega)]
    decide
theorem chunkT_lt {xs : List Nat} (h : bytes8 xs) (i : Nat) : ∀ t, chunkT xs i t < 256 ^ t
  | 0 => by simp [chunkT]
  | t + 1 => by
    have ih := chunkT_lt h i t
    have h2 := getD_lt h (i + t)
    rw [chunkT, Nat.pow_succ]
    omega
theorem chunk_lt {xs : List Nat} (h : bytes8 xs) (i t : Nat) (ht : t ≤ 8) : chunkT xs i t < 18446744073709551616 := by
  have h1 := chunkT_lt h i t
  have h2 : 256 ^ t ≤ 256 ^ 8 := Nat.pow_le_pow_right (by omega) ht
  have h3 : (256 : Nat) ^ 8 = 18446744073709551616 := by decide
  omega
theorem chunkT_inj {xs ys : List Nat} (hx : bytes8 xs) (hy : bytes8 ys) (i : Nat) : ∀ t, chunkT xs i t = chunkT ys i t → ∀ s, s < t → xs.getD (i + s) 0 = ys.getD (i + s) 0
  | 0, _, s, hs => absurd hs (by omega)
  | t + 1, h, s, hs => by
    have h2 := getD_lt hx (i + t)
    have h3 := getD_lt hy (i + t)
    rw [chunkT, chunkT] at h
    by_cases e : s = t
    · subst e; omega
    · exact chunkT_inj hx hy i t (by omega) s (by omega)
theorem chunkT_same {xs ys : List Nat} (i : Nat) : ∀ t, (∀ s, s < t → xs.getD (i + s) 0 = ys.getD (i + s) 0) → chunkT xs i t = chunkT ys i t
  | 0, _ => rfl
  | t + 1, h => by
    rw [chunkT, chunkT, chunkT_same i t (fun s hs => h s (by omega)), h t (by omega)]
def nblk (n : Nat) : Nat := (n + 7) / 8
def chunks (xs : List Nat) (q : Nat) : List Nat := (List.range q).map fun j => chunkT xs (8 * j) 8
def blocksF (xs : List Nat) : List Nat := xs.length :: chunks xs (nblk xs.length)
theorem chunks_succ (xs : List Nat) (q : Nat) : chunks xs (q + 1) = chunks xs q ++ [chunkT xs (8 * q) 8] := by simp [chunks, List.range_succ]
theorem chunks_lt {xs : List Nat} (h : bytes8 xs) (q : Nat) : ∀ x ∈ chunks xs q, x < 18446744073709551616 := by
  intro x hx
  obtain ⟨j, _, rfl⟩ := List.mem_map.1 hx
  exact chunk_lt h _ 8 (Nat.le_refl _)

/-! The chain. -/
def stepE (k : Key4) (m l : Nat) : Nat := encF7 k (m ^^^ l)
def foldE (k : Key4) (l : List Nat) (m : Nat) : Nat := l.foldl (stepE k) m
theorem foldE_nil (k : Key4) (m : Nat) : foldE k [] m = m := by unfold foldE; rw [List.foldl_nil]
theorem foldE_cons (k : Key4) (x : Nat) (l : List Nat) (m : Nat) : foldE k (x :: l) m = foldE k l (stepE k m x) := by unfold foldE; rw [List.foldl_cons]
theorem foldE_app (k : Key4) (a b : List Nat) (m : Nat) : foldE k (a ++ b) m = foldE k b (foldE k a m) := by unfold foldE; rw [List.foldl_append]
theorem foldE_take (k : Key4) (l : List Nat) (m i x : Nat) (h : l[i]? = some x) : foldE k (l.take (i + 1)) m = stepE k (foldE k (l.take i) m) x := by
  obtain ⟨h1, h2⟩ := List.getElem?_eq_some_iff.1 h
  rw [List.take_succ_eq_append_getElem h1, h2, foldE_app, foldE_cons, foldE_nil]
def lt64 (l : List Nat) : Prop := ∀ x ∈ l, x < 18446744073709551616
theorem stepE_lt {k : Key4} (hk : k.ok) {m l : Nat} (hm : m < 18446744073709551616) (hl : l < 18446744073709551616) : stepE k m l < 18446744073709551616 := encF7_lt hk (xor64 hm hl)
theorem foldE_lt {k : Key4} (hk : k.ok) : ∀ (l : List Nat) (m : Nat), lt64 l → m < 18446744073709551616 → foldE k l m < 18446744073709551616
  | [], m, _, hm => by rw [foldE_nil]; exact hm
  | x :: l, m, hl, hm => by
    rw [foldE_cons]
    exact foldE_lt hk l _ (fun y hy => hl y (by simp [hy])) (stepE_lt hk hm (hl x (by simp)))
theorem xor_inj_left {a b x : Nat} (h : a ^^^ x = b ^^^ x) : a = b := by
  have := congrArg (· ^^^ x) h
  simpa [Nat.xor_assoc, Nat.xor_self] using this
theorem xor_inj_right {a x y : Nat} (h : a ^^^ x = a ^^^ y) : x = y := by
  rw [Nat.xor_comm a x, Nat.xor_comm a y] at h
  exact xor_inj_left h
theorem stepE_inj_left {k : Key4} (hk : k.ok) {a b x : Nat} (ha : a < 18446744073709551616) (hb : b < 18446744073709551616) (hx : x < 18446744073709551616) : stepE k a x = stepE k b x ↔ a = b := by
  unfold stepE
  rw [enc_inj7 hk (xor64 ha hx) (xor64 hb hx)]
  exact ⟨xor_inj_left, fun h => by rw [h]⟩
theorem stepE_inj_right {k : Key4} (hk : k.ok) {a x y : Nat} (ha : a < 18446744073709551616) (hx : x < 18446744073709551616) (hy : y < 18446744073709551616) : stepE k a x = stepE k a y ↔ x = y := by
  unfold stepE
  rw [enc_inj7 hk (xor64 ha hx) (xor64 ha hy)]
  exact ⟨xor_inj_right, fun h => by rw [h]⟩
theorem foldE_inj {k : Key4} (hk : k.ok) : ∀ (l : List Nat) (a b : Nat), lt64 l → a < 18446744073709551616 → b < 18446744073709551616 → (foldE k l a = foldE k l b ↔ a = b)
  | [], a, b, _, _, _ => by rw [foldE_nil, foldE_nil]
  | x :: l, a, b, hl, ha, hb => by
    have hx := hl x (by simp)
    rw [foldE_cons, foldE_cons, foldE_inj hk l _ _ (fun y hy => hl y (by simp [hy])) (stepE_lt hk ha hx) (stepE_lt hk hb hx)]
    exact stepE_inj_left hk ha hb hx
def macF (k : Key4) (xs : List Nat) : Nat := foldE k (blocksF xs) 0
theorem blocks_lt {xs : List Nat} (h : bytes8 xs) (hn : xs.length < 18446744073709551616) : lt64 (blocksF xs) := by
  intro x hx
  rcases List.mem_cons.1 hx with rfl | hx
  · exact hn
  · exact chunks_lt h _ x hx
theorem macF_lt {k : Key4} (hk : k.ok) {xs : List Nat} (h : bytes8 xs) (hn : xs.length < 18446744073709551616) : macF k xs < 18446744073709551616 := foldE_lt hk _ _ (blocks_lt h hn) (by decide)

theorem getD_ext {xs ys : List Nat} (hl : xs.length = ys.length) (h : ∀ i, i < xs.length → xs.getD i 0 = ys.getD i 0) : xs = ys := by
  apply List.ext_getElem hl
  intro i h1 h2
  have := h i h1
  rwa [List.getD_eq_getElem?_getD, List.getD_eq_getElem?_getD, List.getElem?_eq_getElem h1, List.getElem?_eq_getElem h2] at this
/-- Bytes that are turned within one block have another Mac. -/
theorem mac_turned {k : Key4} (hk : k.ok) {b c : List Nat} (hb : bytes8 b) (hc : bytes8 c) (hl : c.length = b.length) (hn : b.length < 1000000) (j : Nat) (h : ∀ i, i / 8 ≠ j → c.getD i 0 = b.getD i 0) : macF k c = macF k b ↔ c = b := by
  refine ⟨fun hm => ?_, fun e => by rw [e]⟩
  have hsame : ∀ t, t ≠ j → chunkT c (8 * t) 8 = chunkT b (8 * t) 8 := fun t ht => chunkT_same _ 8 fun s hs => h _ (by omega)
  by_cases hj : j < nblk b.length
  · have hsplit : ∀ xs : List Nat, chunks xs (nblk b.length) = chunks xs j ++ [chunkT xs (8 * j) 8] ++ (List.range' (j + 1) (nblk b.length - (j + 1))).map fun t => chunkT xs (8 * t) 8 := fun xs => by
      unfold chunks
      have e : List.range (nblk b.length) = List.range j ++ [j] ++ List.range' (j + 1) (nblk b.length - (j + 1)) := by
        rw [List.range_eq_range', List.range_eq_range', show [j] = List.range' j 1 from rfl]
        have h1 : List.range' 0 j ++ List.range' j 1 = List.range' 0 (j + 1) := by
          have := List.range'_append (s := 0) (m := j) (n := 1) (step := 1)
          simpa using this
        have h2 : List.range' 0 (j + 1) ++ List.range' (j + 1) (nblk b.length - (j + 1)) = List.range' 0 (nblk b.length) := by
          have := List.range'_append (s := 0) (m := j + 1) (n := nblk b.length - (j + 1)) (step := 1)
          rw [show j + 1 + (nblk b.length - (j + 1)) = nblk b.length by omega] at this
          simpa using this
        rw [h1, h2]
      rw [e]
      simp
    have hpre : chunks c j = chunks b j := by
      unfold chunks
      exact List.map_congr_left fun t ht => hsame t (by rw [List.mem_range] at ht; omega)
    have hpost : (List.range' (j + 1) (nblk b.length - (j + 1))).map (fun t => chunkT c (8 * t) 8) = (List.range' (j + 1) (nblk b.length - (j + 1))).map fun t => chunkT b (8 * t) 8 :=
      List.map_congr_left fun t ht => hsame t (by rw [List.mem_range'_1] at ht; omega)
    unfold macF blocksF at hm
    rw [hl, hsplit c, hsplit b, hpre, hpost, foldE_cons, foldE_cons, foldE_app, foldE_app, foldE_app, foldE_app, foldE_cons, foldE_cons, foldE_nil, foldE_nil] at hm
    have hlen : b.length < 18446744073709551616 := by omega
    have h0 : stepE k 0 b.length < 18446744073709551616 := stepE_lt hk (by decide) hlen
    have hP : foldE k (chunks b j) (stepE k 0 b.length) < 18446744073709551616 := foldE_lt hk _ _ (chunks_lt hb j) h0
    have hcx := chunk_lt hc (8 * j) 8 (Nat.le_refl _)
    have hbx := chunk_lt hb (8 * j) 8 (Nat.le_refl _)
    rw [foldE_inj hk _ _ _ (fun x hx => by obtain ⟨t, _, rfl⟩ := List.mem_map.1 hx; exact chunk_lt hb _ 8 (Nat.le_refl _)) (stepE_lt hk hP hcx) (stepE_lt hk hP hbx), stepE_inj_right hk hP hcx hbx] at hm
    have hin := chunkT_inj hc hb (8 * j) 8 hm
    refine getD_ext hl fun i hi => ?_
    by_cases e : i / 8 = j
    · have := hin (i - 8 * j) (by omega)
      rwa [show 8 * j + (i - 8 * j) = i by omega] at this
    · exact h i e
  · refine getD_ext hl fun i hi => h i ?_
    unfold nblk at hj
    omega
/-- One block more. -/
theorem mac_behind {k : Key4} {a z : List Nat} {q r : Nat} (ha : a.length = 8 * q) (hz : z.length = r) (h1 : 0 < r) (h2 : r ≤ 8) : macF k (a ++ z) = stepE k (foldE k (chunks a q) (stepE k 0 (8 * q + r))) (chunkT z 0 8) := by
  have hl : (a ++ z).length = 8 * q + r := by rw [List.length_append, ha, hz]
  have hb : nblk (8 * q + r) = q + 1 := by unfold nblk; omega
  have hget : ∀ i, i < 8 * q → (a ++ z).getD i 0 = a.getD i 0 := fun i hi => by
    rw [List.getD_eq_getElem?_getD, List.getD_eq_getElem?_getD, List.getElem?_append_left (by omega)]
  have hget2 : ∀ i, (a ++ z).getD (8 * q + i) 0 = z.getD (0 + i) 0 := fun i => by
    rw [List.getD_eq_getElem?_getD, List.getD_eq_getElem?_getD, List.getElem?_append_right (by omega), ha, show 8 * q + i - 8 * q = 0 + i by omega]
  have hpre : chunks (a ++ z) q = chunks a q := by
    unfold chunks
    exact List.map_congr_left fun t ht => chunkT_same _ 8 fun s hs => hget _ (by rw [List.mem_range] at ht; omega)
  have hlast : chunkT (a ++ z) (8 * q) 8 = chunkT z 0 8 := by
    have e : ∀ t, chunkT (a ++ z) (8 * q) t = chunkT z 0 t := by
      intro t
      induction t with
      | zero => rfl
      | succ t ih => rw [chunkT, chunkT, ih, hget2]
    exact e 8
  unfold macF blocksF
  rw [hl, hb, chunks_succ, hpre, hlast, foldE_cons, foldE_app, foldE_cons, foldE_nil]
theorem mac_grows {k : Key4} (hk : k.ok) {a b z y : List Nat} {q r : Nat} (hxa : bytes8 a) (hxb : bytes8 b) (hxz : bytes8 z) (hxy : bytes8 y) (ha : a.length = 8 * q) (hb : b.length = 8 * q) (hz : z.length = r) (hy : y.length = r) (hr : r ≤ 8) (hq : 8 * q < 1000000) :
    (macF k (a ++ z) = macF k (b ++ z)) ↔ (macF k (a ++ y) = macF k (b ++ y)) := by
  by_cases h0 : r = 0
  · subst h0
    rw [List.eq_nil_of_length_eq_zero hz, List.eq_nil_of_length_eq_zero hy]
  · have hs : stepE k 0 (8 * q + r) < 18446744073709551616 := stepE_lt hk (by decide) (by omega)
    have hA := foldE_lt hk _ _ (chunks_lt hxa q) hs
    have hB := foldE_lt hk _ _ (chunks_lt hxb q) hs
    rw [mac_behind ha hz (by omega) hr, mac_behind hb hz (by omega) hr, mac_behind ha hy (by omega) hr, mac_behind hb hy (by omega) hr,
      stepE_inj_left hk hA hB (chunk_lt hxz 0 8 (Nat.le_refl _)), stepE_inj_left hk hA hB (chunk_lt hxy 0 8 (Nat.le_refl _))]

/-! Derived keys. -/
def keyOf (w v : Nat) : Key4 := ⟨w / 4294967296, w % 4294967296, v / 4294967296, v % 4294967296⟩
def deriveF (k : Key4) (x y : Nat) : Key4 := keyOf (encF7 k (x * 4294967296 + y)) (encF7 k (18446744073709551615 - encF7 k (x * 4294967296 + y)))
theorem keyOf_ok {w v : Nat} (hw : w < 18446744073709551616) (hv : v < 18446744073709551616) : (keyOf w v).ok := by
  refine ⟨?_, ?_, ?_, ?_⟩
  · show w / 4294967296 < 4294967296
    omega
  · show w % 4294967296 < 4294967296
    omega
  · show v / 4294967296 < 4294967296
    omega
  · show v % 4294967296 < 4294967296
    omega
theorem deriveF_ok {k : Key4} (hk : k.ok) {x y : Nat} (hx : x < 4294967296) (hy : y < 4294967296) : (deriveF k x y).ok := keyOf_ok (encF7_lt hk (by omega)) (encF7_lt hk (by omega))
theorem derive_inj {k : Key4} (hk : k.ok) {x y p q : Nat} (hx : x < 4294967296) (hy : y < 4294967296) (hp : p < 4294967296) (hq : q < 4294967296) : deriveF k x y = deriveF k p q ↔ x = p ∧ y = q := by
  constructor
  · intro h
    have h1 : encF7 k (x * 4294967296 + y) / 4294967296 = encF7 k (p * 4294967296 + q) / 4294967296 := congrArg Key4.a h
    have h2 : encF7 k (x * 4294967296 + y) % 4294967296 = encF7 k (p * 4294967296 + q) % 4294967296 := congrArg Key4.b h
    have h3 : encF7 k (x * 4294967296 + y) = encF7 k (p * 4294967296 + q) := by omega
    rw [enc_inj7 hk (by omega) (by omega)] at h3
    omega
  · rintro ⟨rfl, rfl⟩
    rfl
/-- The chapter's example, and what else awake asks. -/
theorem mac_nil (k : Key4) : macF k [] = encF7 k 0 := by
  unfold macF blocksF
  rw [show chunks ([] : List Nat) (nblk ([] : List Nat).length) = [] from rfl, foldE_cons, foldE_nil, stepE]
  rfl
theorem mac_seven (k : Key4) : macF k [7] = encF7 k (encF7 k 1 ^^^ 0x0700000000000000) := by
  unfold macF blocksF
  rw [show chunks [7] (nblk [7].length) = [0x0700000000000000] from by decide, foldE_cons, foldE_cons, foldE_nil, stepE, stepE]
  rfl
theorem mac_none : encF7 ⟨1, 2, 3, 4⟩ 0 ≠ 0 := by rw [enc7_eq]; decide +kernel
end Go.Proofs.Ytekcnmimfhiblaa

/-
  PDUs over plain numbers: validity, text, encoding, decoding; a turned byte.
-/
namespace Go.Proofs.Ytekcnmimfhiblaa

/-- A number in so many bytes, the first one of most weight. -/
def beB (n : Nat) : Nat → List Nat
  | 0 => []
  | m + 1 => n / 256 ^ m % 256 :: beB n m
theorem be_len (n : Nat) : ∀ m, (beB n m).length = m
  | 0 => rfl
  | m + 1 => by rw [beB, List.length_cons, be_len]
theorem be_8 (n : Nat) : ∀ m, bytes8 (beB n m)
  | 0 => fun x hx => by cases hx
  | m + 1 => by
    rw [beB]
    intro x hx
    rcases List.mem_cons.1 hx with rfl | h
    · exact Nat.mod_lt _ (by decide)
    · exact be_8 n m x h
theorem be_get (n : Nat) : ∀ m s, s < m → (beB n m).getD s 0 = n / 256 ^ (m - 1 - s) % 256
  | m + 1, 0, _ => by simp [beB]
  | m + 1, s + 1, h => by
    rw [beB, List.getD_cons_succ, be_get n m s (by omega), show m + 1 - 1 - (s + 1) = m - 1 - s by omega]
theorem getD_mid (A B C : List Nat) (s : Nat) (h : s < B.length) : (A ++ (B ++ C)).getD (A.length + s) 0 = B.getD s 0 := by
  rw [List.getD_eq_getElem?_getD, List.getElem?_append_right (by omega), show A.length + s - A.length = s by omega, List.getElem?_append_left h, ← List.getD_eq_getElem?_getD]
theorem chunk_part (A C : List Nat) (n m : Nat) : ∀ s, s ≤ m → chunkT (A ++ (beB n m ++ C)) A.length s = n / 256 ^ (m - s) % 256 ^ s
  | 0, _ => by simp [chunkT, Nat.mod_one]
  | s + 1, h => by
    rw [chunkT, chunk_part A C n m s (by omega), getD_mid _ _ _ _ (by rw [be_len]; omega), be_get n m s (by omega)]
    obtain ⟨N, hN⟩ : ∃ N, n / 256 ^ (m - (s + 1)) = N := ⟨_, rfl⟩
    have e1 : n / 256 ^ (m - s) = N / 256 := by
      rw [← hN, Nat.div_div_eq_div_mul, ← Nat.pow_succ, show (m - (s + 1)).succ = m - s by omega]
    rw [e1, show m - 1 - s = m - (s + 1) by omega, hN, Nat.pow_succ, Nat.mul_comm (256 ^ s) 256, Nat.mod_mul]
    omega
theorem chunk_be (A C : List Nat) (n m : Nat) (h : n < 256 ^ m) : chunkT (A ++ (beB n m ++ C)) A.length m = n := by
  rw [chunk_part A C n m m (Nat.le_refl _), Nat.sub_self, Nat.pow_zero, Nat.div_one, Nat.mod_eq_of_lt h]
theorem be_inj {n k m : Nat} (hn : n < 256 ^ m) (hk : k < 256 ^ m) (h : beB n m = beB k m) : n = k := by
  have h1 := chunk_be [] [] n m hn
  have h2 := chunk_be [] [] k m hk
  rw [h] at h1
  exact h1.symm.trans h2

structure Pdu where
  kind : Int
  dir : Int
  train : Int
  a : Nat
  b : Nat
  body : List Nat
  mac : Nat
def Pdu.ok (p : Pdu) : Prop := p.a < 4294967296 ∧ p.b < 4294967296 ∧ bytes8 p.body ∧ p.mac < 18446744073709551616
def pdZero : Pdu := ⟨0, 0, 0, 0, 0, [], 0⟩
def pdForm (p : Pdu) : Prop :=
  (p.kind = 1 ∧ p.dir = 0 ∧ p.b = 0 ∧ p.mac = 0 ∧ p.body.length = 0) ∨
  (p.kind = 2 ∧ p.dir = 1 ∧ p.body.length = 0) ∨
  (p.kind = 3 ∧ p.dir = 0 ∧ p.body.length = 0) ∨
  (p.kind = 5 ∧ (p.dir = 0 ∨ p.dir = 1) ∧ p.a = 0 ∧ 1 ≤ p.body.length ∧ p.body.length ≤ 1023) ∨
  (p.kind = 6 ∧ (p.dir = 0 ∨ p.dir = 1) ∧ p.a = 0 ∧ p.body.length = 1)
def pdMay (p : Pdu) : Prop := 0 ≤ p.train ∧ p.train ≤ 16777215 ∧ pdForm p
instance (p : Pdu) : Decidable (pdForm p) := by unfold pdForm; infer_instance
instance (p : Pdu) : Decidable (pdMay p) := by unfold pdMay; infer_instance
/-- The text of a valid PDU. -/
def pdTextV (p : Pdu) : List Nat :=
  beB (2 * p.kind + p.dir).toNat 1 ++ (beB p.train.toNat 3 ++ ((if p.kind ≤ 3 then beB p.a 4 else []) ++ ((if 2 ≤ p.kind then beB p.b 4 else []) ++ ((if p.kind = 5 then beB p.body.length 2 else []) ++ p.body))))
def pdText (p : Pdu) : List Nat := if pdMay p then pdTextV p else []
def pdEncV (p : Pdu) : List Nat := pdTextV p ++ (if 1 < p.kind then beB p.mac 8 else [])
def pdEnc (p : Pdu) : List Nat := if pdMay p then pdEncV p else []

/-! Decoding. -/
def pdGet (b : List Nat) (i m : Nat) : Nat := if i + m ≤ b.length then chunkT b i m else 0
def pdParse (b : List Nat) : Pdu :=
  let k := b.getD 0 0 / 2
  { kind := (k : Nat), dir := (b.getD 0 0 % 2 : Nat), train := (pdGet b 1 3 : Nat),
    a := if k = 1 ∨ k = 2 ∨ k = 3 then pdGet b 4 4 else 0,
    b := if k = 2 ∨ k = 3 then pdGet b 8 4 else if k = 5 ∨ k = 6 then pdGet b 4 4 else 0,
    body := if k = 5 then (b.take (b.length - 8)).drop 10 else if k = 6 then (b.take (b.length - 8)).drop 8 else [],
    mac := if k = 2 ∨ k = 3 ∨ k = 5 ∨ k = 6 then pdGet b (b.length - 8) 8 else 0 }
def pdDec (b : List Nat) : Option Pdu := if 1 ≤ b.length ∧ pdMay (pdParse b) ∧ pdEnc (pdParse b) = b then some (pdParse b) else none
theorem get_be (A C : List Nat) (n m : Nat) (h : n < 256 ^ m) (i : Nat) (hi : i = A.length) : pdGet (A ++ (beB n m ++ C)) i m = n := by
  subst hi
  unfold pdGet
  rw [if_pos (by simp [be_len]), chunk_be A C n m h]
theorem be_one (n : Nat) (h : n < 256) : beB n 1 = [n] := by
  simp [beB, Nat.mod_eq_of_lt h]
theorem mid_slice (P B C : List Nat) (i : Nat) (h : P.length = i) : ((P ++ (B ++ C)).take (i + B.length)).drop i = B := by
  subst h
  rw [List.take_length_add_append, List.drop_left, List.take_left]
theorem parse_enc {p : Pdu} (hk : p.ok) (hm : pdMay p) : pdParse (pdEncV p) = p := by
  obtain ⟨kind, dir, train, a, b, body, mac⟩ := p
  obtain ⟨ha, hb, _, hmac⟩ := hk
  obtain ⟨ht0, ht1, hf⟩ := hm
  simp only at ha hb hmac ht0 ht1
  have e4 : (256 : Nat) ^ 4 = 4294967296 := by decide
  have e3 : (256 : Nat) ^ 3 = 16777216 := by decide
  have e8 : (256 : Nat) ^ 8 = 18446744073709551616 := by decide
  obtain ⟨t, rfl⟩ : ∃ t : Nat, train = t := ⟨train.toNat, by omega⟩
  have htr : ((t : Nat) : Int).toNat = t := by simp
  have T : t < 256 ^ 3 := by rw [e3]; omega
  have Am : a < 256 ^ 4 := by rw [e4]; exact ha
  have Bm : b < 256 ^ 4 := by rw [e4]; exact hb
  have Mm : mac < 256 ^ 8 := by rw [e8]; exact hmac
  unfold pdForm at hf
  simp only at hf
  rcases hf with ⟨rfl, rfl, rfl, rfl, hl⟩ | ⟨rfl, rfl, hl⟩ | ⟨rfl, rfl, hl⟩ | ⟨rfl, hd, rfl, hl1, hl2⟩ | ⟨rfl, hd, rfl, hl⟩
  · obtain rfl := List.eq_nil_of_length_eq_zero hl
    have h : pdEncV ⟨1, 0, t, a, 0, [], 0⟩ = [2] ++ (beB t 3 ++ (beB a 4 ++ [])) := by
      simp [pdEncV, pdTextV, be_one]
    have g1 := get_be [2] (beB a 4 ++ []) t 3 T 1 rfl
    have g2 := get_be ([2] ++ beB t 3) [] a 4 Am 4 (by simp [be_len])
    rw [List.append_assoc] at g2
    rw [h]
    simp only [pdParse, g1, g2]
    simp
  · obtain rfl := List.eq_nil_of_length_eq_zero hl
    have h : pdEncV ⟨2, 1, t, a, b, [], mac⟩ = [5] ++ (beB t 3 ++ (beB a 4 ++ (beB b 4 ++ (beB mac 8 ++ [])))) := by
      simp [pdEncV, pdTextV, be_one]
    have hlen : ([5] ++ (beB t 3 ++ (beB a 4 ++ (beB b 4 ++ (beB mac 8 ++ []))))).length = 20 := by simp [be_len]
    have g1 := get_be [5] (beB a 4 ++ (beB b 4 ++ (beB mac 8 ++ []))) t 3 T 1 rfl
    have g2 := get_be ([5] ++ beB t 3) (beB b 4 ++ (beB mac 8 ++ [])) a 4 Am 4 (by simp [be_len])
    have g3 := get_be ([5] ++ (beB t 3 ++ beB a 4)) (beB mac 8 ++ []) b 4 Bm 8 (by simp [be_len])
    have g4 := get_be ([5] ++ (beB t 3 ++ (beB a 4 ++ beB b 4))) [] mac 8 Mm 12 (by simp [be_len])
    simp only [List.append_assoc] at g1 g2 g3 g4
    rw [h]
    simp only [pdParse, hlen, g1, g2, g3, g4]
    simp
  · obtain rfl := List.eq_nil_of_length_eq_zero hl
    have h : pdEncV ⟨3, 0, t, a, b, [], mac⟩ = [6] ++ (beB t 3 ++ (beB a 4 ++ (beB b 4 ++ (beB mac 8 ++ [])))) := by
      simp [pdEncV, pdTextV, be_one]
    have hlen : ([6] ++ (beB t 3 ++ (beB a 4 ++ (beB b 4 ++ (beB mac 8 ++ []))))).length = 20 := by simp [be_len]
    have g1 := get_be [6] (beB a 4 ++ (beB b 4 ++ (beB mac 8 ++ []))) t 3 T 1 rfl
    have g2 := get_be ([6] ++ beB t 3) (beB b 4 ++ (beB mac 8 ++ [])) a 4 Am 4 (by simp [be_len])
    have g3 := get_be ([6] ++ (beB t 3 ++ beB a 4)) (beB mac 8 ++ []) b 4 Bm 8 (by simp [be_len])
    have g4 := get_be ([6] ++ (beB t 3 ++ (beB a 4 ++ beB b 4))) [] mac 8 Mm 12 (by simp [be_len])
    simp only [List.append_assoc] at g1 g2 g3 g4
    rw [h]
    simp only [pdParse, hlen, g1, g2, g3, g4]
    simp
  · rcases hd with rfl | rfl
    · have h : pdEncV ⟨5, 0, t, 0, b, body, mac⟩ = [10] ++ (beB t 3 ++ (beB b 4 ++ (beB body.length 2 ++ (body ++ (beB mac 8 ++ []))))) := by
        simp [pdEncV, pdTextV, be_one]
      have hlen : ([10] ++ (beB t 3 ++ (beB b 4 ++ (beB body.length 2 ++ (body ++ (beB mac 8 ++ [])))))).length - 8 = 10 + body.length := by simp [be_len]; omega
      have g1 := get_be [10] (beB b 4 ++ (beB body.length 2 ++ (body ++ (beB mac 8 ++ [])))) t 3 T 1 rfl
      have g2 := get_be ([10] ++ beB t 3) (beB body.length 2 ++ (body ++ (beB mac 8 ++ []))) b 4 Bm 4 (by simp [be_len])
      have g4 := get_be ([10] ++ (beB t 3 ++ (beB b 4 ++ (beB body.length 2 ++ body)))) [] mac 8 Mm (10 + body.length) (by simp [be_len]; omega)
      have g5 : (([10] ++ (beB t 3 ++ (beB b 4 ++ (beB body.length 2 ++ (body ++ (beB mac 8 ++ [])))))).take (10 + body.length)).drop 10 = body := by
        have e : [10] ++ (beB t 3 ++ (beB b 4 ++ (beB body.length 2 ++ (body ++ (beB mac 8 ++ []))))) = ([10] ++ (beB t 3 ++ (beB b 4 ++ beB body.length 2))) ++ (body ++ (beB mac 8 ++ [])) := by simp only [List.append_assoc]
        rw [e]
        exact mid_slice _ _ _ _ (by simp [be_len])
      simp only [List.append_assoc] at g1 g2 g4
      rw [h]
      simp only [pdParse, hlen, g1, g2, g4, g5]
      simp
    · have h : pdEncV ⟨5, 1, t, 0, b, body, mac⟩ = [11] ++ (beB t 3 ++ (beB b 4 ++ (beB body.length 2 ++ (body ++ (beB mac 8 ++ []))))) := by
        simp [pdEncV, pdTextV, be_one]
      have hlen : ([11] ++ (beB t 3 ++ (beB b 4 ++ (beB body.length 2 ++ (body ++ (beB mac 8 ++ [])))))).length - 8 = 10 + body.length := by simp [be_len]; omega
      have g1 := get_be [11] (beB b 4 ++ (beB body.length 2 ++ (body ++ (beB mac 8 ++ [])))) t 3 T 1 rfl
      have g2 := get_be ([11] ++ beB t 3) (beB body.length 2 ++ (body ++ (beB mac 8 ++ []))) b 4 Bm 4 (by simp [be_len])
      have g4 := get_be ([11] ++ (beB t 3 ++ (beB b 4 ++ (beB body.length 2 ++ body)))) [] mac 8 Mm (10 + body.length) (by simp [be_len]; omega)
      have g5 : (([11] ++ (beB t 3 ++ (beB b 4 ++ (beB body.length 2 ++ (body ++ (beB mac 8 ++ [])))))).take (10 + body.length)).drop 10 = body := by
        have e : [11] ++ (beB t 3 ++ (beB b 4 ++ (beB body.length 2 ++ (body ++ (beB mac 8 ++ []))))) = ([11] ++ (beB t 3 ++ (beB b 4 ++ beB body.length 2))) ++ (body ++ (beB mac 8 ++ [])) := by simp only [List.append_assoc]
        rw [e]
        exact mid_slice _ _ _ _ (by simp [be_len])
      simp only [List.append_assoc] at g1 g2 g4
      rw [h]
      simp only [pdParse, hlen, g1, g2, g4, g5]
      simp
  · rcases hd with rfl | rfl
    · have h : pdEncV ⟨6, 0, t, 0, b, body, mac⟩ = [12] ++ (beB t 3 ++ (beB b 4 ++ (body ++ (beB mac 8 ++ [])))) := by
        simp [pdEncV, pdTextV, be_one]
      have hlen : ([12] ++ (beB t 3 ++ (beB b 4 ++ (body ++ (beB mac 8 ++ []))))).length - 8 = 8 + body.length := by simp [be_len]; omega
      have g1 := get_be [12] (beB b 4 ++ (body ++ (beB mac 8 ++ []))) t 3 T 1 rfl
      have g2 := get_be ([12] ++ beB t 3) (body ++ (beB mac 8 ++ [])) b 4 Bm 4 (by simp [be_len])
      have g4 := get_be ([12] ++ (beB t 3 ++ (beB b 4 ++ body))) [] mac 8 Mm (8 + body.length) (by simp [be_len]; omega)
      have g5 : (([12] ++ (beB t 3 ++ (beB b 4 ++ (body ++ (beB mac 8 ++ []))))).take (8 + body.length)).drop 8 = body := by
        have e : [12] ++ (beB t 3 ++ (beB b 4 ++ (body ++ (beB mac 8 ++ [])))) = ([12] ++ (beB t 3 ++ beB b 4)) ++ (body ++ (beB mac 8 ++ [])) := by simp only [List.append_assoc]
        rw [e]
        exact mid_slice _ _ _ _ (by simp [be_len])
      simp only [List.append_assoc] at g1 g2 g4
      rw [h]
      simp only [pdParse, hlen, g1, g2, g4, g5]
      simp
    · have h : pdEncV ⟨6, 1, t, 0, b, body, mac⟩ = [13] ++ (beB t 3 ++ (beB b 4 ++ (body ++ (beB mac 8 ++ [])))) := by
        simp [pdEncV, pdTextV, be_one]
      have hlen : ([13] ++ (beB t 3 ++ (beB b 4 ++ (body ++ (beB mac 8 ++ []))))).length - 8 = 8 + body.length := by simp [be_len]; omega
      have g1 := get_be [13] (beB b 4 ++ (body ++ (beB mac 8 ++ []))) t 3 T 1 rfl
      have g2 := get_be ([13] ++ beB t 3) (body ++ (beB mac 8 ++ [])) b 4 Bm 4 (by simp [be_len])
      have g4 := get_be ([13] ++ (beB t 3 ++ (beB b 4 ++ body))) [] mac 8 Mm (8 + body.length) (by simp [be_len]; omega)
      have g5 : (([13] ++ (beB t 3 ++ (beB b 4 ++ (body ++ (beB mac 8 ++ []))))).take (8 + body.length)).drop 8 = body := by
        have e : [13] ++ (beB t 3 ++ (beB b 4 ++ (body ++ (beB mac 8 ++ [])))) = ([13] ++ (beB t 3 ++ beB b 4)) ++ (body ++ (beB mac 8 ++ [])) := by simp only [List.append_assoc]
        rw [e]
        exact mid_slice _ _ _ _ (by simp [be_len])
      simp only [List.append_assoc] at g1 g2 g4
      rw [h]
      simp only [pdParse, hlen, g1, g2, g4, g5]
      simp

theorem pd_dec_enc {p : Pdu} (hk : p.ok) (hm : pdMay p) : pdDec (pdEnc p) = some p := by
  have hp := parse_enc hk hm
  have he : pdEnc p = pdEncV p := by unfold pdEnc; rw [if_pos hm]
  have h1 : 1 ≤ (pdEncV p).length := by
    simp [pdEncV, pdTextV, be_len]
  unfold pdDec
  rw [he, hp, if_pos ⟨h1, hm, he⟩]
theorem pd_dec_only {b : List Nat} {p : Pdu} (h : pdDec b = some p) : pdMay p ∧ pdEnc p = b := by
  unfold pdDec at h
  by_cases hc : 1 ≤ b.length ∧ pdMay (pdParse b) ∧ pdEnc (pdParse b) = b
  · rw [if_pos hc] at h
    injection h with h
    subst h
    exact hc.2
  · rw [if_neg hc] at h; cases h
theorem pd_dec_none {b : List Nat} (h : pdDec b = none) (p : Pdu) (hk : p.ok) (hm : pdMay p) : pdEnc p ≠ b := by
  intro e
  rw [← e, pd_dec_enc hk hm] at h
  cases h
theorem text_8 {p : Pdu} (hb : bytes8 p.body) : bytes8 (pdText p) := by
  have hap : ∀ {x y : List Nat}, bytes8 x → bytes8 y → bytes8 (x ++ y) := fun hx hy v hv => by
    rcases List.mem_append.1 hv with h | h
    · exact hx v h
    · exact hy v h
  have hnil : bytes8 [] := fun v hv => by cases hv
  have hif : ∀ {c : Prop} [Decidable c] {x : List Nat}, bytes8 x → bytes8 (if c then x else []) := fun {c} _ {x} hx => by
    by_cases h : c
    · rw [if_pos h]; exact hx
    · rw [if_neg h]; exact hnil
  unfold pdText pdTextV
  exact hif (hap (be_8 _ _) (hap (be_8 _ _) (hap (hif (be_8 _ _)) (hap (hif (be_8 _ _)) (hap (hif (be_8 _ _)) hb)))))
theorem text_len {p : Pdu} (hm : pdMay p) : (pdText p).length ≤ 1100 := by
  have hbody : p.body.length ≤ 1023 := by
    rcases hm.2.2 with h | h | h | h | h <;> omega
  have hif : ∀ {c : Prop} [Decidable c] (x : List Nat), (if c then x else []).length ≤ x.length := fun {c} _ x => by
    by_cases h : c
    · rw [if_pos h]; exact Nat.le_refl _
    · rw [if_neg h]; exact Nat.zero_le _
  have h1 := hif (c := p.kind ≤ 3) (beB p.a 4)
  have h2 := hif (c := 2 ≤ p.kind) (beB p.b 4)
  have h3 := hif (c := p.kind = 5) (beB p.body.length 2)
  rw [be_len] at h1 h2 h3
  unfold pdText pdTextV
  rw [if_pos hm]
  simp only [List.length_append, be_len]
  omega
def pdSeal (k : Key4) (p : Pdu) : Pdu := if pdMay p ∧ 1 < p.kind then { p with mac := macF k (pdText p) } else p
def pdRight (k : Key4) (p : Pdu) : Prop := pdMay p ∧ 1 < p.kind ∧ p.mac = macF k (pdText p)
instance (k : Key4) (p : Pdu) : Decidable (pdRight k p) := by unfold pdRight; infer_instance
theorem may_mac (p : Pdu) (m : Nat) (h : 1 < p.kind) : pdMay { p with mac := m } ↔ pdMay p := by
  unfold pdMay pdForm
  simp only
  constructor
  · rintro ⟨h0, h1, h2⟩
    refine ⟨h0, h1, ?_⟩
    rcases h2 with h2 | h2
    · omega
    · exact .inr h2
  · rintro ⟨h0, h1, h2⟩
    refine ⟨h0, h1, ?_⟩
    rcases h2 with h2 | h2
    · omega
    · exact .inr h2
theorem text_mac (p : Pdu) (m : Nat) (h : 1 < p.kind) : pdText { p with mac := m } = pdText p := by
  unfold pdText
  by_cases hm : pdMay p
  · rw [if_pos ((may_mac p m h).2 hm), if_pos hm]; rfl
  · rw [if_neg (fun e => hm ((may_mac p m h).1 e)), if_neg hm]
theorem seal_right {k : Key4} {p : Pdu} (hm : pdMay p) (h : 1 < p.kind) : pdRight k (pdSeal k p) := by
  unfold pdSeal
  rw [if_pos ⟨hm, h⟩]
  exact ⟨(may_mac p _ h).2 hm, h, (congrArg (macF k) (text_mac p _ h)).symm⟩
theorem xor_same {x y : Nat} (h : x ^^^ y = x) : y = 0 := by
  have h2 : x ^^^ y = x ^^^ 0 := by rw [h, Nat.xor_zero]
  exact xor_inj_right h2
theorem getD_set_same (l : List Nat) (i v : Nat) (h : i < l.length) : (l.set i v).getD i 0 = v := by
  rw [List.getD_eq_getElem?_getD, List.getElem?_set_self h]; rfl
/-- With one byte turned, what was right is none, or not right. -/
theorem pd_turned {k : Key4} (hk : k.ok) {s q : Pdu} (hs : s.ok) (hr : pdRight k s) (hqo : q.ok) (i y : Nat) (hi : i < (pdEnc s).length) (hy : y ≠ 0) (hq : pdDec ((pdEnc s).set i ((pdEnc s).getD i 0 ^^^ y)) = some q) : ¬ pdRight k q := by
  rintro ⟨hqm, hqk, hqr⟩
  obtain ⟨hsm, hsk, hsr⟩ := hr
  obtain ⟨_, he⟩ := pd_dec_only hq
  have es : pdEnc s = pdText s ++ beB s.mac 8 := by unfold pdEnc pdEncV pdText; rw [if_pos hsm, if_pos hsm, if_pos hsk]
  have eq : pdEnc q = pdText q ++ beB q.mac 8 := by unfold pdEnc pdEncV pdText; rw [if_pos hqm, if_pos hqm, if_pos hqk]
  have hl : (pdText q).length = (pdText s).length := by
    have := congrArg List.length he
    rw [eq, List.length_set, es, List.length_append, List.length_append, be_len, be_len] at this
    omega
  obtain ⟨v, hv⟩ : ∃ v, (pdEnc s).getD i 0 ^^^ y = v := ⟨_, rfl⟩
  have hne : v ≠ (pdEnc s).getD i 0 := fun e => hy (xor_same (hv.trans e))
  rw [hv, eq] at he
  clear hv hq hy
  have e8 : (256 : Nat) ^ 8 = 18446744073709551616 := by decide
  by_cases hlt : i < (pdText s).length
  · rw [es, List.set_append_left _ _ hlt] at he
    obtain ⟨e1, e2⟩ := List.append_inj he (by rw [List.length_set, hl])
    have em : q.mac = s.mac := be_inj (by rw [e8]; exact hqo.2.2.2) (by rw [e8]; exact hs.2.2.2) e2
    rw [hqr, hsr] at em
    have ht := (mac_turned hk (text_8 hs.2.2.1) (text_8 hqo.2.2.1) hl (by have := text_len hsm; omega) (i / 8) (fun p hp => by
      rw [e1, List.getD_eq_getElem?_getD, List.getElem?_set_ne (fun e => hp (by rw [e])), ← List.getD_eq_getElem?_getD])).1 em
    apply hne
    rw [es, List.getD_eq_getElem?_getD, List.getElem?_append_left hlt, ← List.getD_eq_getElem?_getD, ← ht, e1, getD_set_same _ _ _ hlt]
  · rw [es, List.set_append_right _ _ (by omega)] at he
    obtain ⟨e1, e2⟩ := List.append_inj he hl
    have em : q.mac = s.mac := by rw [hqr, hsr, e1]
    rw [em] at e2
    have hi8 : i - (pdText s).length < (beB s.mac 8).length := by
      rw [es, List.length_append] at hi
      omega
    apply hne
    rw [es, List.getD_eq_getElem?_getD, List.getElem?_append_right (by omega), ← List.getD_eq_getElem?_getD]
    rw [e2] at hi8 ⊢
    rw [getD_set_same _ _ _ (by simpa using hi8)]
theorem pow256_4 : (256 : Nat) ^ 4 = 4294967296 := by decide
theorem get_lt {b : List Nat} (hb : bytes8 b) (i m : Nat) : pdGet b i m < 256 ^ m := by
  unfold pdGet
  by_cases h : i + m ≤ b.length
  · rw [if_pos h]; exact chunkT_lt hb i m
  · rw [if_neg h]; exact Nat.pow_pos (by decide)
theorem parse_ok {b : List Nat} (hb : bytes8 b) : (pdParse b).ok := by
  have g1 := get_lt hb 4 4
  have g2 := get_lt hb 8 4
  have g3 := get_lt hb (b.length - 8) 8
  have e8 : (256 : Nat) ^ 8 = 18446744073709551616 := by decide
  rw [pow256_4] at g1 g2
  rw [e8] at g3
  have hsub : ∀ n m, bytes8 ((b.take n).drop m) := fun n m x hx => hb x (List.mem_of_mem_take (List.mem_of_mem_drop hx))
  refine ⟨?_, ?_, ?_, ?_⟩
  · show (if _ then _ else _) < _
    split
    · exact g1
    · decide
  · show (if _ then _ else if _ then _ else _) < _
    split
    · exact g2
    · split
      · exact g1
      · decide
  · show bytes8 (if _ then _ else if _ then _ else _)
    split
    · exact hsub _ _
    · split
      · exact hsub _ _
      · exact fun x hx => by cases hx
  · show (if _ then _ else _) < _
    split
    · exact g3
    · decide
theorem dec_ok {b : List Nat} {p : Pdu} (hb : bytes8 b) (h : pdDec b = some p) : p.ok := by
  unfold pdDec at h
  split at h
  · injection h with h
    subst h
    exact parse_ok hb
  · cases h
end Go.Proofs.Ytekcnmimfhiblaa

/-
  Ends of a connection over plain numbers: asking, answering, confirming; data; the end.
-/
namespace Go.Proofs.Ytekcnmimfhiblaa

structure Peer where
  side : Int
  train : Int
  base : Key4
  state : Int
  a : Nat
  b : Nat
  key : Key4
  half : Bool
  a2 : Nat
  b2 : Nat
def key0 : Key4 := ⟨0, 0, 0, 0⟩
def Peer.ok (p : Peer) : Prop := p.base.ok ∧ p.a < 4294967296 ∧ p.b < 4294967296 ∧ p.key.ok ∧ p.a2 < 4294967296 ∧ p.b2 < 4294967296
def peer0 : Peer := ⟨0, 0, key0, 0, 0, 0, key0, false, 0, 0⟩
theorem key0_ok : key0.ok := ⟨by decide, by decide, by decide, by decide⟩
theorem peer0_ok : peer0.ok := ⟨key0_ok, by decide, by decide, key0_ok, by decide, by decide⟩
/-- From where PDUs come to an end; where its own go. -/
def fromD (p : Peer) : Int := if p.side = 0 then 1 else 0
def ownD (p : Peer) : Int := if p.side = 0 then 0 else 1
def numbered (p : Peer) : Prop := 0 ≤ p.train ∧ p.train ≤ 16777215
instance (p : Peer) : Decidable (numbered p) := by unfold numbered; infer_instance
def shFits (p : Peer) (q : Pdu) (k : Int) : Prop := pdMay q ∧ q.kind = k ∧ q.dir = fromD p ∧ q.train = p.train
instance (p : Peer) (q : Pdu) (k : Int) : Decidable (shFits p q k) := by unfold shFits; infer_instance
def shAsk (p : Peer) (a : Nat) : Peer × Pdu × Int :=
  if p.side = 0 ∧ numbered p then ({ p with state := 1, a := a, b := 0, key := key0 }, ⟨1, 0, p.train, a, 0, [], 0⟩, 0) else (peer0, pdZero, 1)
def shAnswer (p : Peer) (q : Pdu) (b : Nat) : Peer × Pdu × Int :=
  if p.side ≠ 0 ∧ shFits p q 1 then ({ p with half := true, a2 := q.a, b2 := b }, pdSeal p.base ⟨2, 1, p.train, q.a, b, [], 0⟩, 0) else (peer0, pdZero, 1)
def shConfirm (p : Peer) (q : Pdu) : Peer × Pdu × Int :=
  if p.side = 0 ∧ shFits p q 2 then
    if p.state = 1 then
      if q.a = p.a then
        if pdRight p.base q then ({ p with state := 2, b := q.b, key := deriveF p.base p.a q.b }, pdSeal p.base ⟨3, 0, p.train, p.a, q.b, [], 0⟩, 0)
        else (peer0, pdZero, 90)
      else (peer0, pdZero, 110)
    else (peer0, pdZero, 6)
  else (peer0, pdZero, 1)
def shDone (p : Peer) (q : Pdu) : Peer × Int :=
  if p.side ≠ 0 ∧ shFits p q 3 then
    if p.half = true then
      if q.a = p.a2 ∧ q.b = p.b2 then
        if pdRight p.base q then ({ p with state := 2, a := p.a2, b := p.b2, key := deriveF p.base p.a2 p.b2, half := false, a2 := 0, b2 := 0 }, 0)
        else (peer0, 90)
      else (peer0, 110)
    else (peer0, 6)
  else (peer0, 1)
def shData (p : Peer) (body : List Nat) : Pdu × Int :=
  if p.state = 2 then
    if numbered p ∧ 1 ≤ body.length ∧ body.length ≤ 1023 then (pdSeal p.key ⟨5, ownD p, p.train, 0, p.b, body, 0⟩, 0)
    else (pdZero, 1)
  else (pdZero, 6)
def shCame (p : Peer) (q : Pdu) (k : Int) : Int :=
  if shFits p q k then
    if p.state = 2 then
      if q.b = p.b then
        if pdRight p.key q then 0 else 90
      else 110
    else 6
  else 1
def shTake (p : Peer) (q : Pdu) : List Nat × Int := if shCame p q 5 = 0 then (q.body, 0) else ([], shCame p q 5)
def shClosed (p : Peer) : Peer := { p with state := 0, a := 0, b := 0, key := key0 }
def shEnd (p : Peer) (why : Nat) : Peer × Pdu × Int :=
  if p.state = 2 then
    if numbered p then (shClosed p, pdSeal p.key ⟨6, ownD p, p.train, 0, p.b, [why], 0⟩, 0)
    else (peer0, pdZero, 1)
  else (peer0, pdZero, 6)
def shClose (p : Peer) (q : Pdu) : Peer × Int := if shCame p q 6 = 0 then (shClosed p, 0) else (peer0, shCame p q 6)

/-! What follows: both ends of a connection that was made. -/
def half0 (base : Key4) (train : Int) : Peer := { peer0 with train := train, base := base }
def half1 (base : Key4) (train : Int) : Peer := { peer0 with side := 1, train := train, base := base }
def upX (base : Key4) (train : Int) (a b : Nat) : Peer := ⟨0, train, base, 2, a, b, deriveF base a b, false, 0, 0⟩
def upY (base : Key4) (train : Int) (a b : Nat) : Peer := ⟨1, train, base, 2, a, b, deriveF base a b, false, 0, 0⟩
end Go.Proofs.Ytekcnmimfhiblaa
