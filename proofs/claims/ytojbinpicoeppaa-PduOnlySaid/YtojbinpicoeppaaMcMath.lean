/-
  The Mac over plain numbers: blocks, the chain, what a turned block does; derived keys.
-/
import Derived.Test.YtojbinpicoeppaaCiMath
namespace Go.Proofs.Ytojbinpicoeppaa

/-- The number that the first t bytes from a place on are; a byte that is not there is 0. -/
def chunkT (xs : List Nat) (i : Nat) : Nat → Nat
  | 0 => 0
  | t + 1 => chunkT xs i t * 256 + xs.getD (i + t) 0
def bytes8 (xs : List Nat) : Prop := ∀ x ∈ xs, x < 256
theorem getD_lt {xs : List Nat} (h : bytes8 xs) (i : Nat) : xs.getD i 0 < 256 := by
  rw [List.getD_eq_getElem?_getD]
  by_cases hi : i < xs.length
  · rw [List.getElem?_eq_getElem hi]
    exact h _ (List.getElem_mem hi)
  · rw [List.getElem?_eq_none (by omega)]
    decide
theorem chunkT_lt {xs : List Nat} (h : bytes8 xs) (i : Nat) : ∀ t, chunkT xs i t < 256 ^ t
  | 0 => by simp [chunkT]
  | t + 1 => by
    have ih := chunkT_lt h i t
    have h2 := getD_lt h (i + t)
    rw [chunkT, Nat.pow_succ]
    omega
theorem chunk_lt {xs : List Nat} (h : bytes8 xs) (i t : Nat) (ht : t ≤ 8) : chunkT xs i t < 18446744073709551616 := by
  have h1 := chunkT_lt h i t
  have h2 : 256 ^ t ≤ 256 ^ 8 := Nat.pow_le_pow_right (by omega) ht
  have h3 : (256 : Nat) ^ 8 = 18446744073709551616 := by decide
  omega
theorem chunkT_inj {xs ys : List Nat} (hx : bytes8 xs) (hy : bytes8 ys) (i : Nat) : ∀ t, chunkT xs i t = chunkT ys i t → ∀ s, s < t → xs.getD (i + s) 0 = ys.getD (i + s) 0
  | 0, _, s, hs => absurd hs (by omega)
  | t + 1, h, s, hs => by
    have h2 := getD_lt hx (i + t)
    have h3 := getD_lt hy (i + t)
    rw [chunkT, chunkT] at h
    by_cases e : s = t
    · subst e; omega
    · exact chunkT_inj hx hy i t (by omega) s (by omega)
theorem chunkT_same {xs ys : List Nat} (i : Nat) : ∀ t, (∀ s, s < t → xs.getD (i + s) 0 = ys.getD (i + s) 0) → chunkT xs i t = chunkT ys i t
  | 0, _ => rfl
  | t + 1, h => by
    rw [chunkT, chunkT, chunkT_same i t (fun s hs => h s (by omega)), h t (by omega)]
def nblk (n : Nat) : Nat := (n + 7) / 8
def chunks (xs : List Nat) (q : Nat) : List Nat := (List.range q).map fun j => chunkT xs (8 * j) 8
def blocksF (xs : List Nat) : List Nat := xs.length :: chunks xs (nblk xs.length)
theorem chunks_succ (xs : List Nat) (q : Nat) : chunks xs (q + 1) = chunks xs q ++ [chunkT xs (8 * q) 8] := by simp [chunks, List.range_succ]
theorem chunks_lt {xs : List Nat} (h : bytes8 xs) (q : Nat) : ∀ x ∈ chunks xs q, x < 18446744073709551616 := by
  intro x hx
  obtain ⟨j, _, rfl⟩ := List.mem_map.1 hx
  exact chunk_lt h _ 8 (Nat.le_refl _)

/-! The chain. -/
def stepE (k : Key4) (m l : Nat) : Nat := encF7 k (m ^^^ l)
def foldE (k : Key4) (l : List Nat) (m : Nat) : Nat := l.foldl (stepE k) m
theorem foldE_nil (k : Key4) (m : Nat) : foldE k [] m = m := by unfold foldE; rw [List.foldl_nil]
theorem foldE_cons (k : Key4) (x : Nat) (l : List Nat) (m : Nat) : foldE k (x :: l) m = foldE k l (stepE k m x) := by unfold foldE; rw [List.foldl_cons]
theorem foldE_app (k : Key4) (a b : List Nat) (m : Nat) : foldE k (a ++ b) m = foldE k b (foldE k a m) := by unfold foldE; rw [List.foldl_append]
theorem foldE_take (k : Key4) (l : List Nat) (m i x : Nat) (h : l[i]? = some x) : foldE k (l.take (i + 1)) m = stepE k (foldE k (l.take i) m) x := by
  obtain ⟨h1, h2⟩ := List.getElem?_eq_some_iff.1 h
  rw [List.take_succ_eq_append_getElem h1, h2, foldE_app, foldE_cons, foldE_nil]
def lt64 (l : List Nat) : Prop := ∀ x ∈ l, x < 18446744073709551616
theorem stepE_lt {k : Key4} (hk : k.ok) {m l : Nat} (hm : m < 18446744073709551616) (hl : l < 18446744073709551616) : stepE k m l < 18446744073709551616 := encF7_lt hk (xor64 hm hl)
theorem foldE_lt {k : Key4} (hk : k.ok) : ∀ (l : List Nat) (m : Nat), lt64 l → m < 18446744073709551616 → foldE k l m < 18446744073709551616
  | [], m, _, hm => by rw [foldE_nil]; exact hm
  | x :: l, m, hl, hm => by
    rw [foldE_cons]
    exact foldE_lt hk l _ (fun y hy => hl y (by simp [hy])) (stepE_lt hk hm (hl x (by simp)))
theorem xor_inj_left {a b x : Nat} (h : a ^^^ x = b ^^^ x) : a = b := by
  have := congrArg (· ^^^ x) h
  simpa [Nat.xor_assoc, Nat.xor_self] using this
theorem xor_inj_right {a x y : Nat} (h : a ^^^ x = a ^^^ y) : x = y := by
  rw [Nat.xor_comm a x, Nat.xor_comm a y] at h
  exact xor_inj_left h
theorem stepE_inj_left {k : Key4} (hk : k.ok) {a b x : Nat} (ha : a < 18446744073709551616) (hb : b < 18446744073709551616) (hx : x < 18446744073709551616) : stepE k a x = stepE k b x ↔ a = b := by
  unfold stepE
  rw [enc_inj7 hk (xor64 ha hx) (xor64 hb hx)]
  exact ⟨xor_inj_left, fun h => by rw [h]⟩
theorem stepE_inj_right {k : Key4} (hk : k.ok) {a x y : Nat} (ha : a < 18446744073709551616) (hx : x < 18446744073709551616) (hy : y < 18446744073709551616) : stepE k a x = stepE k a y ↔ x = y := by
  unfold stepE
  rw [enc_inj7 hk (xor64 ha hx) (xor64 ha hy)]
  exact ⟨xor_inj_right, fun h => by rw [h]⟩
theorem foldE_inj {k : Key4} (hk : k.ok) : ∀ (l : List Nat) (a b : Nat), lt64 l → a < 18446744073709551616 → b < 18446744073709551616 → (foldE k l a = foldE k l b ↔ a = b)
  | [], a, b, _, _, _ => by rw [foldE_nil, foldE_nil]
  | x :: l, a, b, hl, ha, hb => by
    have hx := hl x (by simp)
    rw [foldE_cons, foldE_cons, foldE_inj hk l _ _ (fun y hy => hl y (by simp [hy])) (stepE_lt hk ha hx) (stepE_lt hk hb hx)]
    exact stepE_inj_left hk ha hb hx
def macF (k : Key4) (xs : List Nat) : Nat := foldE k (blocksF xs) 0
theorem blocks_lt {xs : List Nat} (h : bytes8 xs) (hn : xs.length < 18446744073709551616) : lt64 (blocksF xs) := by
  intro x hx
  rcases List.mem_cons.1 hx with rfl | hx
  · exact hn
  · exact chunks_lt h _ x hx
theorem macF_lt {k : Key4} (hk : k.ok) {xs : List Nat} (h : bytes8 xs) (hn : xs.length < 18446744073709551616) : macF k xs < 18446744073709551616 := foldE_lt hk _ _ (blocks_lt h hn) (by decide)

theorem getD_ext {xs ys : List Nat} (hl : xs.length = ys.length) (h : ∀ i, i < xs.length → xs.getD i 0 = ys.getD i 0) : xs = ys := by
  apply List.ext_getElem hl
  intro i h1 h2
  have := h i h1
  rwa [List.getD_eq_getElem?_getD, List.getD_eq_getElem?_getD, List.getElem?_eq_getElem h1, List.getElem?_eq_getElem h2] at this
/-- Bytes that are turned within one block have another Mac. -/
theorem mac_turned {k : Key4} (hk : k.ok) {b c : List Nat} (hb : bytes8 b) (hc : bytes8 c) (hl : c.length = b.length) (hn : b.length < 1000000) (j : Nat) (h : ∀ i, i / 8 ≠ j → c.getD i 0 = b.getD i 0) : macF k c = macF k b ↔ c = b := by
  refine ⟨fun hm => ?_, fun e => by rw [e]⟩
  have hsame : ∀ t, t ≠ j → chunkT c (8 * t) 8 = chunkT b (8 * t) 8 := fun t ht => chunkT_same _ 8 fun s hs => h _ (by omega)
  by_cases hj : j < nblk b.length
  · have hsplit : ∀ xs : List Nat, chunks xs (nblk b.length) = chunks xs j ++ [chunkT xs (8 * j) 8] ++ (List.range' (j + 1) (nblk b.length - (j + 1))).map fun t => chunkT xs (8 * t) 8 := fun xs => by
      unfold chunks
      have e : List.range (nblk b.length) = List.range j ++ [j] ++ List.range' (j + 1) (nblk b.length - (j + 1)) := by
        rw [List.range_eq_range', List.range_eq_range', show [j] = List.range' j 1 from rfl]
        have h1 : List.range' 0 j ++ List.range' j 1 = List.range' 0 (j + 1) := by
          have := List.range'_append (s := 0) (m := j) (n := 1) (step := 1)
          simpa using this
        have h2 : List.range' 0 (j + 1) ++ List.range' (j + 1) (nblk b.length - (j + 1)) = List.range' 0 (nblk b.length) := by
          have := List.range'_append (s := 0) (m := j + 1) (n := nblk b.length - (j + 1)) (step := 1)
          rw [show j + 1 + (nblk b.length - (j + 1)) = nblk b.length by omega] at this
          simpa using this
        rw [h1, h2]
      rw [e]
      simp
    have hpre : chunks c j = chunks b j := by
      unfold chunks
      exact List.map_congr_left fun t ht => hsame t (by rw [List.mem_range] at ht; omega)
    have hpost : (List.range' (j + 1) (nblk b.length - (j + 1))).map (fun t => chunkT c (8 * t) 8) = (List.range' (j + 1) (nblk b.length - (j + 1))).map fun t => chunkT b (8 * t) 8 :=
      List.map_congr_left fun t ht => hsame t (by rw [List.mem_range'_1] at ht; omega)
    unfold macF blocksF at hm
    rw [hl, hsplit c, hsplit b, hpre, hpost, foldE_cons, foldE_cons, foldE_app, foldE_app, foldE_app, foldE_app, foldE_cons, foldE_cons, foldE_nil, foldE_nil] at hm
    have hlen : b.length < 18446744073709551616 := by omega
    have h0 : stepE k 0 b.length < 18446744073709551616 := stepE_lt hk (by decide) hlen
    have hP : foldE k (chunks b j) (stepE k 0 b.length) < 18446744073709551616 := foldE_lt hk _ _ (chunks_lt hb j) h0
    have hcx := chunk_lt hc (8 * j) 8 (Nat.le_refl _)
    have hbx := chunk_lt hb (8 * j) 8 (Nat.le_refl _)
    rw [foldE_inj hk _ _ _ (fun x hx => by obtain ⟨t, _, rfl⟩ := List.mem_map.1 hx; exact chunk_lt hb _ 8 (Nat.le_refl _)) (stepE_lt hk hP hcx) (stepE_lt hk hP hbx), stepE_inj_right hk hP hcx hbx] at hm
    have hin := chunkT_inj hc hb (8 * j) 8 hm
    refine getD_ext hl fun i hi => ?_
    by_cases e : i / 8 = j
    · have := hin (i - 8 * j) (by omega)
      rwa [show 8 * j + (i - 8 * j) = i by omega] at this
    · exact h i e
  · refine getD_ext hl fun i hi => h i ?_
    unfold nblk at hj
    omega
/-- One block more. -/
theorem mac_behind {k : Key4} {a z : List Nat} {q r : Nat} (ha : a.length = 8 * q) (hz : z.length = r) (h1 : 0 < r) (h2 : r ≤ 8) : macF k (a ++ z) = stepE k (foldE k (chunks a q) (stepE k 0 (8 * q + r))) (chunkT z 0 8) := by
  have hl : (a ++ z).length = 8 * q + r := by rw [List.length_append, ha, hz]
  have hb : nblk (8 * q + r) = q + 1 := by unfold nblk; omega
  have hget : ∀ i, i < 8 * q → (a ++ z).getD i 0 = a.getD i 0 := fun i hi => by
    rw [List.getD_eq_getElem?_getD, List.getD_eq_getElem?_getD, List.getElem?_append_left (by omega)]
  have hget2 : ∀ i, (a ++ z).getD (8 * q + i) 0 = z.getD (0 + i) 0 := fun i => by
    rw [List.getD_eq_getElem?_getD, List.getD_eq_getElem?_getD, List.getElem?_append_right (by omega), ha, show 8 * q + i - 8 * q = 0 + i by omega]
  have hpre : chunks (a ++ z) q = chunks a q := by
    unfold chunks
    exact List.map_congr_left fun t ht => chunkT_same _ 8 fun s hs => hget _ (by rw [List.mem_range] at ht; omega)
  have hlast : chunkT (a ++ z) (8 * q) 8 = chunkT z 0 8 := by
    have e : ∀ t, chunkT (a ++ z) (8 * q) t = chunkT z 0 t := by
      intro t
      induction t with
      | zero => rfl
      | succ t ih => rw [chunkT, chunkT, ih, hget2]
    exact e 8
  unfold macF blocksF
  rw [hl, hb, chunks_succ, hpre, hlast, foldE_cons, foldE_app, foldE_cons, foldE_nil]
theorem mac_grows {k : Key4} (hk : k.ok) {a b z y : List Nat} {q r : Nat} (hxa : bytes8 a) (hxb : bytes8 b) (hxz : bytes8 z) (hxy : bytes8 y) (ha : a.length = 8 * q) (hb : b.length = 8 * q) (hz : z.length = r) (hy : y.length = r) (hr : r ≤ 8) (hq : 8 * q < 1000000) :
    (macF k (a ++ z) = macF k (b ++ z)) ↔ (macF k (a ++ y) = macF k (b ++ y)) := by
  by_cases h0 : r = 0
  · subst h0
    rw [List.eq_nil_of_length_eq_zero hz, List.eq_nil_of_length_eq_zero hy]
  · have hs : stepE k 0 (8 * q + r) < 18446744073709551616 := stepE_lt hk (by decide) (by omega)
    have hA := foldE_lt hk _ _ (chunks_lt hxa q) hs
    have hB := foldE_lt hk _ _ (chunks_lt hxb q) hs
    rw [mac_behind ha hz (by omega) hr, mac_behind hb hz (by omega) hr, mac_behind ha hy (by omega) hr, mac_behind hb hy (by omega) hr,
      stepE_inj_left hk hA hB (chunk_lt hxz 0 8 (Nat.le_refl _)), stepE_inj_left hk hA hB (chunk_lt hxy 0 8 (Nat.le_refl _))]

/-! Derived keys. -/
def keyOf (w v : Nat) : Key4 := ⟨w / 4294967296, w % 4294967296, v / 4294967296, v % 4294967296⟩
def deriveF (k : Key4) (x y : Nat) : Key4 := keyOf (encF7 k (x * 4294967296 + y)) (encF7 k (18446744073709551615 - encF7 k (x * 4294967296 + y)))
theorem keyOf_ok {w v : Nat} (hw : w < 18446744073709551616) (hv : v < 18446744073709551616) : (keyOf w v).ok := by
  refine ⟨?_, ?_, ?_, ?_⟩
  · show w / 4294967296 < 4294967296
    omega
  · show w % 4294967296 < 4294967296
    omega
  · show v / 4294967296 < 4294967296
    omega
  · show v % 4294967296 < 4294967296
    omega
theorem deriveF_ok {k : Key4} (hk : k.ok) {x y : Nat} (hx : x < 4294967296) (hy : y < 4294967296) : (deriveF k x y).ok := keyOf_ok (encF7_lt hk (by omega)) (encF7_lt hk (by omega))
theorem derive_inj {k : Key4} (hk : k.ok) {x y p q : Nat} (hx : x < 4294967296) (hy : y < 4294967296) (hp : p < 4294967296) (hq : q < 4294967296) : deriveF k x y = deriveF k p q ↔ x = p ∧ y = q := by
  constructor
  · intro h
    have h1 : encF7 k (x * 4294967296 + y) / 4294967296 = encF7 k (p * 4294967296 + q) / 4294967296 := congrArg Key4.a h
    have h2 : encF7 k (x * 4294967296 + y) % 4294967296 = encF7 k (p * 4294967296 + q) % 4294967296 := congrArg Key4.b h
    have h3 : encF7 k (x * 4294967296 + y) = encF7 k (p * 4294967296 + q) := by omega
    rw [enc_inj7 hk (by omega) (by omega)] at h3
    omega
  · rintro ⟨rfl, rfl⟩
    rfl
/-- The chapter's example, and what else awake asks. -/
theorem mac_nil (k : Key4) : macF k [] = encF7 k 0 := by
  unfold macF blocksF
  rw [show chunks ([] : List Nat) (nblk ([] : List Nat).length) = [] from rfl, foldE_cons, foldE_nil, stepE]
  rfl
theorem mac_seven (k : Key4) : macF k [7] = encF7 k (encF7 k 1 ^^^ 0x0700000000000000) := by
  unfold macF blocksF
  rw [show chunks [7] (nblk [7].length) = [0x0700000000000000] from by decide, foldE_cons, foldE_cons, foldE_nil, stepE, stepE]
  rfl
theorem mac_none : encF7 ⟨1, 2, 3, 4⟩ 0 ≠ 0 := by rw [enc7_eq]; decide +kernel
end Go.Proofs.Ytojbinpicoeppaa
