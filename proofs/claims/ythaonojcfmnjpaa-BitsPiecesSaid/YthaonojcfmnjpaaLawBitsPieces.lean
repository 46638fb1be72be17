/-
  BitsPieces: a number may be taken in two pieces: of any bytes, at any place, at any two widths.
-/
import Derived.Test.YthaonojcfmnjpaaBitsAny
import Derived.Test.YthaonojcfmnjpaaLawAwake
namespace Go.Proofs.Ythaonojcfmnjpaa
open Go.RowKit
open BitsM

set_option maxRecDepth 100000 in
set_option maxHeartbeats 1000000 in
theorem bitsPieces_out (A : Option Addr) (n c : Nat) (skip first second : Int) (w : World) (h : 2000 < n ∨ first < 1 ∨ second < 1 ∨ 31 < first ∨ 31 < second ∨ 32 < first + second) :
    Calls Try.prog 6 #[.slice A n c, .int .i64 skip, .int .i64 first, .int .i64 second] w fun e w' => e = .returned (.bool true) ∧ Below w.heap.size w w' := by
  have hi : 2000 < (n : Int) ∨ first < 1 ∨ second < 1 ∨ 31 < first ∨ 31 < second ∨ 32 < first + second := by omega
  by_cases h1 : 2000 < (n : Int)
  · go_enter Try.func6, Try.ntmps6
    go_wp2_with (first | (go_at_call 10; refine (awake_any _).mono ?_; rintro e w1 ⟨rfl, hb1⟩))
    go_ret
    exact ⟨rfl, hb1⟩
  by_cases h2 : first < 1
  · go_enter Try.func6, Try.ntmps6
    go_wp2_with (first | (go_at_call 10; refine (awake_any _).mono ?_; rintro e w1 ⟨rfl, hb1⟩))
    go_ret
    exact ⟨rfl, hb1⟩
  by_cases h3 : second < 1
  · go_enter Try.func6, Try.ntmps6
    go_wp2_with (first | (go_at_call 10; refine (awake_any _).mono ?_; rintro e w1 ⟨rfl, hb1⟩))
    go_ret
    exact ⟨rfl, hb1⟩
  by_cases h4 : 31 < first
  · go_enter Try.func6, Try.ntmps6
    go_wp2_with (first | (go_at_call 10; refine (awake_any _).mono ?_; rintro e w1 ⟨rfl, hb1⟩))
    go_ret
    exact ⟨rfl, hb1⟩
  by_cases h5 : 31 < second
  · go_enter Try.func6, Try.ntmps6
    go_wp2_with (first | (go_at_call 10; refine (awake_any _).mono ?_; rintro e w1 ⟨rfl, hb1⟩))
    go_ret
    exact ⟨rfl, hb1⟩
  · have h6 : 32 < first + second := by omega
    clear hi h
    go_enter Try.func6, Try.ntmps6
    go_wp2_with (first | (go_at_call 10; refine (awake_any _).mono ?_; rintro e w1 ⟨rfl, hb1⟩))
    go_ret
    exact ⟨rfl, hb1⟩

theorem at8_under {w w' : World} {A : Option Addr} {xs : List Nat} (h : At8 w A xs) (hb : Below w.heap.size w w') : At8 w' A xs := by
  intro hpos
  obtain ⟨ad, e, hc⟩ := h hpos
  refine ⟨ad, e, fun j v hv => ?_⟩
  have := hc j v hv
  have hlt : (ad.add j).block < w.heap.size := by
    rcases Nat.lt_or_ge (ad.add j).block w.heap.size with h1 | h1
    · exact h1
    · exfalso
      have hn : w.heap[(ad.add j).block]? = none := Array.getElem?_eq_none h1
      simp [World.cell?, hn] at this
  rw [hb.cell hlt]
  exact this

theorem pieces (xs : List Nat) (p F S : Nat) (h : F + S ≤ 32) :
    ((num (bitsFrom xs p (F + S)) : Nat) : Int) = wrap64 (wrap64 (((num (bitsFrom xs p F) : Nat) : Int) * 2 ^ S) + ((num (bitsFrom xs (p + F) S) : Nat) : Int)) := by
  have e := num_append (bitsFrom xs p F) (bitsFrom xs (p + F) S)
  rw [← bitsFrom_add, bitsFrom_length] at e
  have b := num_lt (bitsFrom xs p (F + S))
  rw [bitsFrom_length] at b
  have h2 : (2 : Nat) ^ (F + S) ≤ 2 ^ 32 := Nat.pow_le_pow_right (by omega) h
  generalize num (bitsFrom xs p (F + S)) = n at *
  generalize num (bitsFrom xs (p + F) S) = y at *
  have e2 : (((num (bitsFrom xs p F) : Nat) : Int) * 2 ^ S) = ((num (bitsFrom xs p F) * 2 ^ S : Nat) : Int) := by simp
  rw [e2]
  generalize num (bitsFrom xs p F) * 2 ^ S = x at *
  have e3 : wrap64 (x : Int) = x := IntWalk.wrap64_in _ (by omega)
  rw [e3]
  have e4 : wrap64 ((x : Int) + y) = (x : Int) + y := IntWalk.wrap64_in _ (by omega)
  rw [e4]
  omega

/-- The two readers, behind the skip. -/
structure Two (w0 w : World) (gr gs : Nat) (xs : List Nat) (p q : Nat) : Prop where
  ne : gr ≠ gs
  r : IsR w gr xs p
  s : IsR w gs xs q
  low : w0.heap.size ≤ gr
  low2 : w0.heap.size ≤ gs
  below : Below w0.heap.size w0 w
theorem Two.stepR {w0 w w' : World} {gr gs : Nat} {xs : List Nat} {p q p' : Nat} (h : Two w0 w gr gs xs p q) (hr : IsR w' gr xs p') (hg : w.grownBy w' (some gr)) : Two w0 w' gr gs xs p' q :=
  ⟨h.ne, hr, h.s.keep h.r (Ne.symm h.ne) hg, h.low, h.low2, below_only h.below hg h.below.size h.low⟩
theorem Two.stepS {w0 w w' : World} {gr gs : Nat} {xs : List Nat} {p q q' : Nat} (h : Two w0 w gr gs xs p q) (hs : IsR w' gs xs q') (hg : w.grownBy w' (some gs)) : Two w0 w' gr gs xs p q' :=
  ⟨h.ne, h.r.keep h.s h.ne hg, hs, h.low, h.low2, below_only h.below hg h.below.size h.low2⟩
theorem Two.draws {w0 w : World} {gr gs : Nat} {xs : List Nat} {p q : Nat} (h : Two w0 w gr gs xs p q) (n : Nat) : Two w0 (w.drewN n) gr gs xs p q :=
  ⟨h.ne, h.r, h.s, h.low, h.low2, below_draws h.below n⟩

set_option maxRecDepth 100000 in
set_option maxHeartbeats 2000000 in
theorem bitsPieces_whole (A : Option Addr) (c : Nat) (xs : List Nat) (skip : Int) (F S : Nat) (w : World) (ha : At8 w A xs) (hb : ∀ x ∈ xs, x < 256) (hn : xs.length ≤ 2000) (hF : 1 ≤ F) (hS : 1 ≤ S) (hFS : F + S ≤ 32) (p : Nat) (hp : p = gotP xs 0 skip) (hA : p + (F + S) ≤ 8 * xs.length) :
    Calls Try.prog 6 #[.slice A xs.length c, .int .i64 skip, .int .i64 F, .int .i64 S] w fun e w' => e = .returned (.bool true) ∧ Below w.heap.size w w' := by
  have h1 : ¬ 2000 < (xs.length : Int) := by omega
  have h2 : ¬ (F : Int) < 1 := by omega
  have h3 : ¬ (S : Int) < 1 := by omega
  have h4 : ¬ 31 < (F : Int) := by omega
  have h5 : ¬ 31 < (S : Int) := by omega
  have h6 : ¬ 32 < (F : Int) + S := by omega
  have HA := Lib.hid ha; clear ha
  have HB := Lib.hid hb; clear hb
  have HP := Lib.hid hp; clear hp
  obtain ⟨N, hN⟩ : ∃ N, N = num (bitsFrom xs p (F + S)) := ⟨_, rfl⟩
  obtain ⟨X, hX⟩ : ∃ X, X = num (bitsFrom xs p F) := ⟨_, rfl⟩
  obtain ⟨Y, hY⟩ : ∃ Y, Y = num (bitsFrom xs (p + F) S) := ⟨_, rfl⟩
  have hq := pieces xs p F S hFS
  rw [← hN, ← hX, ← hY] at hq
  have HQ := Lib.hid hq; clear hq
  have HN := Lib.hid hN; clear hN
  have HX := Lib.hid hX; clear hX
  have HY := Lib.hid hY; clear hY
  go_enter Try.func6, Try.ntmps6
  go_wp2_with (first | (go_at_call 10; refine (awake_any _).mono ?_; rintro e w1 ⟨rfl, hb1⟩))
  have HB1 := Lib.hid hb1; clear hb1
  refine (read_any A c xs w1 (at8_under HA.out HB1.out) (by omega) HB.out).mono ?_
  rintro e w2 ⟨gr, rfl, hgr, hr2, hb2⟩
  have HR2 := Lib.hid hr2; clear hr2
  have HB2 := Lib.hid hb2; clear hb2
  go_wp2_with fail
  refine (read_any A c xs w2 (at8_under (at8_under HA.out HB1.out) HB2.out) (by omega) HB.out).mono ?_
  rintro e w3 ⟨gs, rfl, hgs, hs3, hb3⟩
  have two : Two w w3 gr gs xs 0 0 := by
    have l2 : gr < w2.heap.size := by obtain ⟨_, _, h, _⟩ := HR2.out; exact h.lt
    have z1 := HB1.out.size
    have z2 := HB2.out.size
    exact ⟨by omega, HR2.out.under hb3 (Nat.le_refl _), hs3, by omega, by omega, (HB1.out.trans (HB2.out.mono z1)).trans (hb3.mono (by omega))⟩
  have T3 := Lib.hid two; clear two hs3 hb3 hgr hgs
  go_wp2_with fail
  refine (get_any gr xs 0 skip w3 T3.out.r).mono ?_
  rintro e w4 ⟨rfl, hr4, hg4⟩
  have T4 := Lib.hid (T3.out.stepR hr4 hg4); clear hr4 hg4 T3
  go_wp2_with fail
  refine (get_any gs xs 0 skip w4 T4.out.s).mono ?_
  rintro e w5 ⟨rfl, hs5, hg5⟩
  have T5 := Lib.hid (T4.out.stepS hs5 hg5); clear hs5 hg5 T4
  have hple : p ≤ 8 * xs.length := by rw [HP.out]; exact (gotP_le (by omega)).2
  rw [← HP.out] at T5
  go_wp2_with fail
  have eFS : ((F : Int) + S).toNat = F + S := by omega
  have c6 := get_any gr xs p ((F : Int) + S) w5 T5.out.r
  obtain ⟨e1, e2, e3⟩ := got_yes (xs := xs) (p := p) (k := (F : Int) + S) (by omega) (by omega) (by rw [eFS]; exact hA)
  rw [e1, e2, e3, eFS, ← HN.out] at c6
  clear e1 e2 e3 eFS
  refine c6.mono ?_
  clear c6
  rintro e w6 ⟨rfl, hr6, hg6⟩
  have T6 := Lib.hid (T5.out.stepR hr6 hg6); clear hr6 hg6 T5
  go_wp2_with fail
  have c7 := get_any gs xs p (F : Int) w6 T6.out.s
  obtain ⟨e1, e2, e3⟩ := got_yes (xs := xs) (p := p) (k := (F : Int)) (by omega) (by omega) (by omega)
  rw [e1, e2, e3, Int.toNat_natCast, ← HX.out] at c7
  clear e1 e2 e3
  refine c7.mono ?_
  clear c7
  rintro e w7 ⟨rfl, hs7, hg7⟩
  have T7 := Lib.hid (T6.out.stepS hs7 hg7); clear hs7 hg7 T6
  go_wp2_with fail
  have c8 := get_any gs xs (p + F) (S : Int) w7 T7.out.s
  obtain ⟨e1, e2, e3⟩ := got_yes (xs := xs) (p := p + F) (k := (S : Int)) (by omega) (by omega) (by omega)
  rw [e1, e2, e3, Int.toNat_natCast, ← HY.out] at c8
  clear e1 e2 e3
  refine c8.mono ?_
  clear c8
  rintro e w8 ⟨rfl, hs8, hg8⟩
  have T8 := Lib.hid (T7.out.stepS hs8 hg8); clear hs8 hg8 T7
  have hq := HQ.out.symm
  clear HQ
  go_wp2_with fail
  refine (left_any gr xs (p + (F + S)) _ T8.out.r).mono ?_
  rintro e w9 ⟨rfl, n9, rfl⟩
  go_wp2_with fail
  rw [Nat.add_assoc] at T8
  refine (left_any gs xs (p + (F + S)) _ (T8.out.draws n9).s).mono ?_
  rintro e w10 ⟨rfl, n10, rfl⟩
  go_wp2
  go_ret
  exact ⟨rfl, (T8.out.draws (n9 + n10)).below⟩
set_option maxRecDepth 100000 in
set_option maxHeartbeats 2000000 in
theorem bitsPieces_second (A : Option Addr) (c : Nat) (xs : List Nat) (skip : Int) (F S : Nat) (w : World) (ha : At8 w A xs) (hb : ∀ x ∈ xs, x < 256) (hn : xs.length ≤ 2000) (hF : 1 ≤ F) (hS : 1 ≤ S) (hFS : F + S ≤ 32) (p : Nat) (hp : p = gotP xs 0 skip) (hA : 8 * xs.length < p + (F + S)) (hB : p + F ≤ 8 * xs.length) :
    Calls Try.prog 6 #[.slice A xs.length c, .int .i64 skip, .int .i64 F, .int .i64 S] w fun e w' => e = .returned (.bool true) ∧ Below w.heap.size w w' := by
  have h1 : ¬ 2000 < (xs.length : Int) := by omega
  have h2 : ¬ (F : Int) < 1 := by omega
  have h3 : ¬ (S : Int) < 1 := by omega
  have h4 : ¬ 31 < (F : Int) := by omega
  have h5 : ¬ 31 < (S : Int) := by omega
  have h6 : ¬ 32 < (F : Int) + S := by omega
  have HA := Lib.hid ha; clear ha
  have HB := Lib.hid hb; clear hb
  have HP := Lib.hid hp; clear hp
  go_enter Try.func6, Try.ntmps6
  go_wp2_with (first | (go_at_call 10; refine (awake_any _).mono ?_; rintro e w1 ⟨rfl, hb1⟩))
  have HB1 := Lib.hid hb1; clear hb1
  refine (read_any A c xs w1 (at8_under HA.out HB1.out) (by omega) HB.out).mono ?_
  rintro e w2 ⟨gr, rfl, hgr, hr2, hb2⟩
  have HR2 := Lib.hid hr2; clear hr2
  have HB2 := Lib.hid hb2; clear hb2
  go_wp2_with fail
  refine (read_any A c xs w2 (at8_under (at8_under HA.out HB1.out) HB2.out) (by omega) HB.out).mono ?_
  rintro e w3 ⟨gs, rfl, hgs, hs3, hb3⟩
  have two : Two w w3 gr gs xs 0 0 := by
    have l2 : gr < w2.heap.size := by obtain ⟨_, _, h, _⟩ := HR2.out; exact h.lt
    have z1 := HB1.out.size
    have z2 := HB2.out.size
    exact ⟨by omega, HR2.out.under hb3 (Nat.le_refl _), hs3, by omega, by omega, (HB1.out.trans (HB2.out.mono z1)).trans (hb3.mono (by omega))⟩
  have T3 := Lib.hid two; clear two hs3 hb3 hgr hgs
  go_wp2_with fail
  refine (get_any gr xs 0 skip w3 T3.out.r).mono ?_
  rintro e w4 ⟨rfl, hr4, hg4⟩
  have T4 := Lib.hid (T3.out.stepR hr4 hg4); clear hr4 hg4 T3
  go_wp2_with fail
  refine (get_any gs xs 0 skip w4 T4.out.s).mono ?_
  rintro e w5 ⟨rfl, hs5, hg5⟩
  have T5 := Lib.hid (T4.out.stepS hs5 hg5); clear hs5 hg5 T4
  have hple : p ≤ 8 * xs.length := by rw [HP.out]; exact (gotP_le (by omega)).2
  rw [← HP.out] at T5
  go_wp2_with fail
  have eFS : ((F : Int) + S).toNat = F + S := by omega
  have c6 := get_any gr xs p ((F : Int) + S) w5 T5.out.r
  obtain ⟨e1, e2, e3⟩ := got_short (xs := xs) (p := p) (k := (F : Int) + S) (by omega) (by omega) (by rw [eFS]; omega)
  rw [e1, e2, e3] at c6
  clear e1 e2 e3 eFS
  refine c6.mono ?_
  clear c6
  rintro e w6 ⟨rfl, hr6, hg6⟩
  have T6 := Lib.hid (T5.out.stepR hr6 hg6); clear hr6 hg6 T5
  go_wp2_with fail
  have c7 := get_any gs xs p (F : Int) w6 T6.out.s
  obtain ⟨e1, e2, e3⟩ := got_yes (xs := xs) (p := p) (k := (F : Int)) (by omega) (by omega) (by omega)
  rw [e1, e2, e3, Int.toNat_natCast] at c7
  clear e1 e2 e3
  refine c7.mono ?_
  clear c7
  rintro e w7 ⟨rfl, hs7, hg7⟩
  have T7 := Lib.hid (T6.out.stepS hs7 hg7); clear hs7 hg7 T6
  have hlt : ((8 * xs.length - (p + F) : Nat) : Int) < S := by omega
  go_wp2_with fail
  refine (left_any gs xs (p + F) _ T7.out.s).mono ?_
  rintro e w8 ⟨rfl, n8, rfl⟩
  go_wp2
  go_ret
  exact ⟨rfl, (T7.out.draws n8).below⟩
set_option maxRecDepth 100000 in
set_option maxHeartbeats 2000000 in
theorem bitsPieces_first (A : Option Addr) (c : Nat) (xs : List Nat) (skip : Int) (F S : Nat) (w : World) (ha : At8 w A xs) (hb : ∀ x ∈ xs, x < 256) (hn : xs.length ≤ 2000) (hF : 1 ≤ F) (hS : 1 ≤ S) (hFS : F + S ≤ 32) (p : Nat) (hp : p = gotP xs 0 skip) (hA : 8 * xs.length < p + (F + S)) (hB : 8 * xs.length < p + F) :
    Calls Try.prog 6 #[.slice A xs.length c, .int .i64 skip, .int .i64 F, .int .i64 S] w fun e w' => e = .returned (.bool true) ∧ Below w.heap.size w w' := by
  have h1 : ¬ 2000 < (xs.length : Int) := by omega
  have h2 : ¬ (F : Int) < 1 := by omega
  have h3 : ¬ (S : Int) < 1 := by omega
  have h4 : ¬ 31 < (F : Int) := by omega
  have h5 : ¬ 31 < (S : Int) := by omega
  have h6 : ¬ 32 < (F : Int) + S := by omega
  have HA := Lib.hid ha; clear ha
  have HB := Lib.hid hb; clear hb
  have HP := Lib.hid hp; clear hp
  go_enter Try.func6, Try.ntmps6
  go_wp2_with (first | (go_at_call 10; refine (awake_any _).mono ?_; rintro e w1 ⟨rfl, hb1⟩))
  have HB1 := Lib.hid hb1; clear hb1
  refine (read_any A c xs w1 (at8_under HA.out HB1.out) (by omega) HB.out).mono ?_
  rintro e w2 ⟨gr, rfl, hgr, hr2, hb2⟩
  have HR2 := Lib.hid hr2; clear hr2
  have HB2 := Lib.hid hb2; clear hb2
  go_wp2_with fail
  refine (read_any A c xs w2 (at8_under (at8_under HA.out HB1.out) HB2.out) (by omega) HB.out).mono ?_
  rintro e w3 ⟨gs, rfl, hgs, hs3, hb3⟩
  have two : Two w w3 gr gs xs 0 0 := by
    have l2 : gr < w2.heap.size := by obtain ⟨_, _, h, _⟩ := HR2.out; exact h.lt
    have z1 := HB1.out.size
    have z2 := HB2.out.size
    exact ⟨by omega, HR2.out.under hb3 (Nat.le_refl _), hs3, by omega, by omega, (HB1.out.trans (HB2.out.mono z1)).trans (hb3.mono (by omega))⟩
  have T3 := Lib.hid two; clear two hs3 hb3 hgr hgs
  go_wp2_with fail
  refine (get_any gr xs 0 skip w3 T3.out.r).mono ?_
  rintro e w4 ⟨rfl, hr4, hg4⟩
  have T4 := Lib.hid (T3.out.stepR hr4 hg4); clear hr4 hg4 T3
  go_wp2_with fail
  refine (get_any gs xs 0 skip w4 T4.out.s).mono ?_
  rintro e w5 ⟨rfl, hs5, hg5⟩
  have T5 := Lib.hid (T4.out.stepS hs5 hg5); clear hs5 hg5 T4
  have hple : p ≤ 8 * xs.length := by rw [HP.out]; exact (gotP_le (by omega)).2
  rw [← HP.out] at T5
  go_wp2_with fail
  have eFS : ((F : Int) + S).toNat = F + S := by omega
  have c6 := get_any gr xs p ((F : Int) + S) w5 T5.out.r
  obtain ⟨e1, e2, e3⟩ := got_short (xs := xs) (p := p) (k := (F : Int) + S) (by omega) (by omega) (by rw [eFS]; omega)
  rw [e1, e2, e3] at c6
  clear e1 e2 e3 eFS
  refine c6.mono ?_
  clear c6
  rintro e w6 ⟨rfl, hr6, hg6⟩
  have T6 := Lib.hid (T5.out.stepR hr6 hg6); clear hr6 hg6 T5
  go_wp2_with fail
  have c7 := get_any gs xs p (F : Int) w6 T6.out.s
  obtain ⟨e1, e2, e3⟩ := got_short (xs := xs) (p := p) (k := (F : Int)) (by omega) (by omega) (by omega)
  rw [e1, e2, e3] at c7
  clear e1 e2 e3
  refine c7.mono ?_
  clear c7
  rintro e w7 ⟨rfl, hs7, hg7⟩
  have T7 := Lib.hid (T6.out.stepS hs7 hg7); clear hs7 hg7 T6
  go_wp2
  go_ret
  exact ⟨rfl, T7.out.below⟩

theorem bitsPieces_walk (A : Option Addr) (n c : Nat) (zs : List Int) (skip first second : Int) (w : World) (h : InInts .u8 w A n zs) (_h1 : (Lit.int .i64 skip).wf = true) (_h2 : (Lit.int .i64 first).wf = true) (_h3 : (Lit.int .i64 second).wf = true) :
    Calls Try.prog 6 #[.slice A n c, .int .i64 skip, .int .i64 first, .int .i64 second] w fun e w' => e = .returned (.bool true) ∧ Below w.heap.size w w' := by
  obtain ⟨hl, _, ha, hb⟩ := h.bytes
  by_cases hin : n ≤ 2000 ∧ 1 ≤ first ∧ 1 ≤ second ∧ first + second ≤ 32
  · obtain ⟨F, rfl⟩ := Int.eq_ofNat_of_zero_le (show 0 ≤ first by omega)
    obtain ⟨S, rfl⟩ := Int.eq_ofNat_of_zero_le (show 0 ≤ second by omega)
    rw [← hl]
    by_cases hA : gotP (zs.map Int.toNat) 0 skip + (F + S) ≤ 8 * (zs.map Int.toNat).length
    · exact bitsPieces_whole A c (zs.map Int.toNat) skip F S w ha hb (by omega) (by omega) (by omega) (by omega) _ rfl hA
    · by_cases hB : gotP (zs.map Int.toNat) 0 skip + F ≤ 8 * (zs.map Int.toNat).length
      · exact bitsPieces_second A c (zs.map Int.toNat) skip F S w ha hb (by omega) (by omega) (by omega) (by omega) _ rfl (by omega) hB
      · exact bitsPieces_first A c (zs.map Int.toNat) skip F S w ha hb (by omega) (by omega) (by omega) (by omega) _ rfl (by omega) (by omega)
  · exact bitsPieces_out A n c skip first second w (by omega)
end Go.Proofs.Ythaonojcfmnjpaa
