/-
  linesideref01: Bits and Get.
-/
import Derived.Test.YthaonojcfmnjpaaRef01
import Derived.StillTailTactics
import Derived.Deep.RegionLaw
namespace Go.Proofs.Ythaonojcfmnjpaa
open Go.RowKit
open BitsM

theorem at8_at {w : World} {A : Option Addr} {xs : List Nat} (h : At8 w A xs) {j : Nat} (hj : j < xs.length) : ∃ b off, A = some ⟨b, off, none⟩ ∧ w.cell? ⟨b, off + j, none⟩ = some (.int .u8 (xs.getD j 0 : Nat)) := by
  obtain ⟨⟨b, off, spot⟩, rfl, hc⟩ := h (by omega)
  have h0 := hc 0 _ (List.getElem?_eq_getElem (by rw [u8s_length]; omega))
  have hspot : spot = none := by simpa [Addr.add] using World.cell?_spot h0
  subst hspot
  refine ⟨b, off, rfl, ?_⟩
  rw [← WideShapes.add_plain]
  refine hc j _ ?_
  simp [u8s, List.getD_eq_getElem?_getD, hj]

theorem at8_low {w w' : World} {A : Option Addr} {xs : List Nat} (h : At8 w A xs) (hb : Below w.heap.size w w') : At8 w' A xs := by
  intro hpos
  obtain ⟨ad, e, hc⟩ := h hpos
  exact ⟨ad, e, fun j v hv => by have h0 := hc j v hv; rw [hb.cell (cell_block h0)]; exact h0⟩

theorem bitAt_byte (xs : List Nat) (i t : Nat) (h : t < 8) : bitAt xs (8 * i + t) = (xs.getD i 0).testBit (7 - t) := by
  unfold bitAt
  rw [show (8 * i + t) / 8 = i from by omega, show (8 * i + t) % 8 = t from by omega]

set_option maxRecDepth 100000 in
set_option maxHeartbeats 2000000 in
theorem refBits_any (A : Option Addr) (c : Nat) (xs : List Nat) (w : World) (ha : At8 w A xs) (hb : ∀ x ∈ xs, x < 256) (hn : xs.length ≤ 2000) :
    Calls Try.prog 17 #[.slice A xs.length c] w fun e w' =>
      ∃ A' c', e = .returned (.slice A' (8 * xs.length) c') ∧ w'.ownsRow w.heap.size 4 1 (.slice A' (8 * xs.length) c') (8 * xs.length) (bools (bitsFrom xs 0 (8 * xs.length))) ∧ Below w.heap.size w w' := by
  have HA := Lib.hid ha; clear ha
  have HX := Lib.hid hb; clear hb
  obtain ⟨n, hnx⟩ : ∃ n, n = xs.length := ⟨_, rfl⟩
  rw [← hnx] at hn
  rw [← hnx]
  have HN := Lib.hid hnx; clear hnx
  go_enter Try.func17, Try.ntmps17
  go_wp2
  go_loopw [3, 4] (fun v i wr => ∃ (j : Nat) (A3 : Option Addr) (c3 : Nat), j ≤ n ∧ i = .int .i64 (j : Nat) ∧ v = .slice A3 (8 * j) c3 ∧
      wr.ownsRow w.heap.size 4 1 (.slice A3 (8 * j) c3) (8 * j) (bools (bitsFrom xs 0 (8 * j))) ∧ Below w.heap.size w wr) (fun _ i _ => n - (intOf i).toNat)
  case atStart => exact ⟨0, none, 0, by omega, rfl, rfl, World.ownsRow_nil _ _ _ _, Below.refl _ _⟩
  case round =>
    obtain ⟨j, A3, c3, hj, rfl, rfl, ho, hb⟩ := hrel
    have HO := Lib.hid ho; clear ho
    have HB := Lib.hid hb; clear hb
    by_cases hlt : j < n
    · go_wp2_with fail
      go_loopw [3, 5] (fun v k ws => ∃ (t : Nat) (A4 : Option Addr) (c4 : Nat), t ≤ 8 ∧ k = .int .i64 (7 - (t : Int)) ∧ v = .slice A4 (8 * j + t) c4 ∧
        ws.ownsRow w.heap.size 4 1 (.slice A4 (8 * j + t) c4) (8 * j + t) (bools (bitsFrom xs 0 (8 * j + t))) ∧ Below w.heap.size w ws) (fun _ k _ => (intOf k + 1).toNat)
      case atStart => exact ⟨0, A3, c3, by omega, by simp, rfl, HO.out, HB.out⟩
      case round =>
        clear HO HB
        obtain ⟨t, A4, c4, ht, rfl, rfl, ho, hb⟩ := hrel
        have HO := Lib.hid ho; clear ho
        have HB := Lib.hid hb; clear hb
        by_cases ht8 : t < 8
        · obtain ⟨b, off, rfl, hc⟩ := at8_at (at8_low HA.out HB.out) (j := j) (by rw [← HN.out]; exact hlt)
          obtain ⟨y, hy⟩ : ∃ y, y = xs.getD j 0 := ⟨_, rfl⟩
          rw [← hy] at hc
          have hyb : y < 256 := by
            have hl : j < xs.length := by rw [← HN.out]; exact hlt
            rw [hy, List.getD_eq_getElem?_getD, List.getElem?_eq_getElem hl]
            exact HX.out _ (List.getElem_mem _)
          obtain ⟨R, hR⟩ : ∃ R, R = 2 ^ (7 - t) := ⟨_, rfl⟩
          have hRp : 0 < R := by rw [hR]; exact Nat.two_pow_pos _
          have hRb : R ≤ 128 := by
            rw [hR]
            have : (2 : Nat) ^ (7 - t) ≤ 2 ^ 7 := Nat.pow_le_pow_right (by omega) (by omega)
            omega
          have c6 := fun W => power_any (7 - t) R (by omega) hR W
          rw [show ((7 - t : Nat) : Int) = 7 - (t : Int) from by omega] at c6
          have HR := Lib.hid hR; clear hR
          have HC6 := Lib.hid c6; clear c6
          obtain ⟨q, hq⟩ : ∃ q, q = y / R := ⟨_, rfl⟩
          obtain ⟨T, hT⟩ : ∃ T, T = bitAt xs (8 * j + t) := ⟨_, rfl⟩
          have hqy : q ≤ y := by rw [hq]; exact Nat.div_le_self _ _
          have hqT : ((q : Int) % 2 == 1) = T := by
            rw [hT, bitAt_byte _ _ _ ht8, ← hy, Nat.testBit_eq_decide_div_mod_eq, hq, HR.out, Bool.eq_iff_iff, beq_iff_eq, decide_eq_true_eq]
            omega
          have HT := Lib.hid hT; clear hT
          have HQ := Lib.hid hq; clear hq hy
          go_wp2_with fail
          have hR0 : R ≠ 0 := by omega
          have e1 : IntKind.i64.wrap (y : Int) = y := IntWalk.i64_in _ (by omega)
          have e2 : IntKind.i64.wrap ((y : Int) / (R : Int)) = q := by
            rw [show (y : Int) / (R : Int) = (q : Int) from by rw [HQ.out]; simp]
            exact IntWalk.i64_in _ (by omega)
          have e3 : ((q : Int).tmod 2 == 1) = T := by rw [Int.tmod_eq_emod_of_nonneg (by omega)]; exact hqT
          have HN1 := Lib.hid (show ([.bool T] : List Value).length = 1 * 1 from rfl)
          have HO3 : Hid ((wr.alloc (Obj.cells #[.bool T] 4)).drew.ownsRow w.heap.size 4 1 (.slice A4 (8 * j + t) c4) (8 * j + t) (bools (bitsFrom xs 0 (8 * j + t)))) := HO.out.alloc (Obj.cells #[.bool T] 4)
          have HC : Hid (∀ i u, ([.bool T] : List Value)[i]? = some u → (wr.alloc (.cells #[.bool T] 4)).drew.cell? ((⟨wr.heap.size, 0, none⟩ : Addr).add i) = some u) := by
            intro i u hu
            rw [WideShapes.add_plain, Nat.zero_add, (show Has (wr.alloc (.cells #[.bool T] 4)).drew wr.heap.size 4 #[.bool T] from Has.made wr 4 #[.bool T]).cell]
            simpa using hu
          have H1 : Hid (∀ u ∈ ([.bool T] : List Value), u.oneCell' = true) := by
            intro u hu
            simp only [List.mem_singleton] at hu
            subst hu
            rfl
          have HBD : Hid (8 * j + t + 1 ≤ maxLen ∧ (8 * j + t + 1) * 1 ≤ 140737488355328 ∧ w.heap.size ≤ (wr.alloc (.cells #[.bool T] 4)).drew.heap.size) := by
            refine ⟨by unfold maxLen; omega, by omega, ?_⟩
            have := HB.out.size
            show _ ≤ (wr.alloc (.cells #[.bool T] 4)).heap.size
            simp
            omega
          have HB3 : Hid (Below w.heap.size w (wr.alloc (Obj.cells #[.bool T] 4)).drew) := below_draws (HB.out.alloc HB.out.size (Obj.cells #[.bool T] 4)) 1
          clear hqT
          have e : bools (bitsFrom xs 0 (8 * j + (t + 1))) = bools (bitsFrom xs 0 (8 * j + t)) ++ [.bool T] := by
            rw [← Nat.add_assoc, bitsFrom_succ, bools_snoc, Nat.zero_add, ← HT.out]
          have HE := Lib.hid e; clear e
          go_region_law (first
            | (refine step_push (o := ⟨some 28, _, _, _, _, _⟩) rfl (.tmp 16) (.tmp 27) 28 rfl w.heap.size 4 (.bool false) 1 1 Try.underlying28 info_bool rfl (by decide) A4 (8 * j + t) c4 (bools (bitsFrom xs 0 (8 * j + t))) rfl HO3 ⟨wr.heap.size, 0, none⟩ 1 1 [.bool T] rfl HN1 HC H1 HBD ?_; intro A5 c5 w5 ho5 hg5)
            | (go_simp; go_at_call 23; refine (HC6.out _).mono ?_; rintro e w' ⟨rfl, rfl⟩))
          all_goals
            clear e1 e2 e3
            go_wp2
            go_roundw
            · refine ⟨t + 1, A5, c5, by omega, by go_num, rfl, ?_, below_own HB3.out HBD.out.2.2 HO3.out (Nat.le_refl _) rfl hg5.out⟩
              rw [HE.out]
              exact ho5.out
            · simp [intOf]; omega
        · obtain rfl : t = 8 := by omega
          go_wp2
          go_roundw
          case rel => exact ⟨j + 1, A4, c4, by omega, by go_num, rfl, HO.out, HB.out⟩
          case measure => simp [intOf]; omega
    · obtain rfl : j = n := by omega
      go_wp2
      go_ret
      exact ⟨A3, c3, rfl, HO.out, HB.out⟩

/-! Get -/
theorem bitsFrom_take (xs : List Nat) (p k m : Nat) (h : k ≤ m) : (bitsFrom xs p m).take k = bitsFrom xs p k := by
  unfold bitsFrom
  rw [← List.map_take, List.take_range, Nat.min_eq_left h]
theorem bitsFrom_drop (xs : List Nat) (p k m : Nat) (h : k ≤ m) : (bitsFrom xs p m).drop k = bitsFrom xs (p + k) (m - k) := by
  have e := bitsFrom_add xs p k (m - k)
  rw [Nat.add_sub_cancel' h] at e
  rw [e, List.drop_left' (by rw [bitsFrom_length])]

theorem SlB.cut {w : World} {A : Option Addr} {m c : Nat} {bs : List Bool} (h : SlB w A m c bs) (hmc : m ≤ c) {k : Nat} (hk : k ≤ m) (b off : Nat) (hA : A = some ⟨b, off, none⟩) :
    SlB w (if c = k then some ⟨b, off, none⟩ else some ⟨b, off + k, none⟩) (m - k) (c - k) (bs.drop k) := by
  have hl := h.1
  refine ⟨by rw [List.length_drop]; omega, by rw [bools_length, List.length_drop]; omega, fun e => ?_, fun ad ha j u hu => ?_⟩
  · split at e <;> cases e
  · have hu' : (bools bs)[k + j]? = some u := by
      unfold bools at hu ⊢
      rw [List.getElem?_map, List.getElem?_drop] at hu
      rw [List.getElem?_map]
      exact hu
    have hj : k + j < bs.length := by
      have := (List.getElem?_eq_some_iff.1 hu').1
      rwa [bools_length] at this
    have hck : c ≠ k := by omega
    rw [if_neg hck] at ha
    injection ha with ha
    subst ha
    have h0 := h.2.2.2 _ hA (k + j) u hu'
    rw [WideShapes.add_plain] at h0 ⊢
    rw [Nat.add_assoc]
    exact h0

set_option maxHeartbeats 400000 in
theorem refGet_wide (A : Option Addr) (m c : Nat) (k : Int) (h : k < 1 ∨ 32 < k) (w : World) :
    Calls Try.prog 18 #[.slice A m c, .int .i64 k] w fun e w' => e = .returned (.tuple #[.int .i64 0, .slice A m c, .int .i64 1]) ∧ w = w' := by
  by_cases h1 : k < 1
  · go_enter Try.func18, Try.ntmps18
    go_wp2
    go_ret3
    exact ⟨rfl, rfl⟩
  · have h2 : 32 < k := by omega
    clear h
    go_enter Try.func18, Try.ntmps18
    go_wp2
    go_ret3
    exact ⟨rfl, rfl⟩

set_option maxHeartbeats 400000 in
theorem refGet_short (A : Option Addr) (m c : Nat) (k : Int) (h1 : 1 ≤ k) (h2 : k ≤ 32) (h3 : (m : Int) < k) (w : World) :
    Calls Try.prog 18 #[.slice A m c, .int .i64 k] w fun e w' => e = .returned (.tuple #[.int .i64 0, .slice A m c, .int .i64 10]) ∧ w = w' := by
  have i1 : ¬ k < 1 := by omega
  have i2 : ¬ 32 < k := by omega
  go_enter Try.func18, Try.ntmps18
  go_wp2
  go_ret3
  exact ⟨rfl, rfl⟩

set_option maxRecDepth 100000 in
set_option maxHeartbeats 1000000 in
theorem refGet_fits (A : Option Addr) (m c : Nat) (bs : List Bool) (k : Nat) (h1 : 1 ≤ k) (h2 : k ≤ 32) (h3 : k ≤ m) (hm : m ≤ 1048576) (hmc : m ≤ c) (w : World) (hs : SlB w A m c bs) :
    Calls Try.prog 18 #[.slice A m c, .int .i64 k] w fun e w' =>
      ∃ A', e = .returned (.tuple #[.int .i64 (num (bs.take k) : Nat), .slice A' (m - k) (c - k), .int .i64 0]) ∧ SlB w' A' (m - k) (c - k) (bs.drop k) ∧ ∃ nd, w' = w.drewN nd := by
  obtain ⟨b, off, rfl, _⟩ := sl_bool hs (j := 0) (by omega)
  have i1 : ¬ (k : Int) < 1 := by omega
  have i2 : ¬ 32 < (k : Int) := by omega
  have i3 : ¬ (m : Int) < k := by omega
  have HC := Lib.hid (hs.cut hmc h3 b off rfl)
  have HS := Lib.hid hs; clear hs
  go_enter Try.func18, Try.ntmps18
  go_wp2
  go_loop [7, 8] (fun n i => ∃ j : Nat, j ≤ k ∧ i = .int .i64 (j : Nat) ∧ n = .int .i64 (num (bs.take j) : Nat)) (fun _ i => k - (intOf i).toNat)
  case atStart => exact ⟨0, by omega, rfl, rfl⟩
  case round =>
    obtain ⟨j, hj, rfl, rfl⟩ := hrel
    obtain ⟨N, hN⟩ : ∃ N, N = num (bs.take j) := ⟨_, rfl⟩
    have hNb : N < 4294967296 := by
      have h := num_lt (bs.take j)
      have h4 : (bs.take j).length ≤ 32 := by rw [List.length_take]; omega
      have h5 : (2 : Nat) ^ (bs.take j).length ≤ 2 ^ 32 := Nat.pow_le_pow_right (by omega) h4
      omega
    rw [← hN]
    have HN := Lib.hid hN; clear hN
    by_cases hlt : j < k
    · obtain ⟨b', off', e', hc⟩ := sl_bool HS.out (j := j) (by omega)
      simp only [Option.some.injEq, Addr.mk.injEq, and_true] at e'
      obtain ⟨rfl, rfl⟩ := e'
      have hsucc : num (bs.take (j + 1)) = 2 * N + (bs.getD j false).toNat := by
        have hjl : j < bs.length := by have := HS.out.1; omega
        rw [List.take_succ_eq_append_getElem hjl, num_snoc, HN.out, List.getD_eq_getElem?_getD, List.getElem?_eq_getElem hjl]
        rfl
      obtain ⟨T, hT⟩ : ∃ T, T = bs.getD j false := ⟨_, rfl⟩
      rw [← hT] at hc hsucc
      have HU := Lib.hid hsucc; clear hsucc hT
      cases T
      all_goals
        go_wp2
        go_round
        case rel => exact ⟨j + 1, by omega, by go_num, by rw [HU.out]; go_num⟩
        case measure => simp [intOf]; omega
    · obtain rfl : j = k := by omega
      have i4 : (j : Int) ≤ m := by omega
      have i5 : (m : Int) ≤ c := by omega
      go_wp2_with fail
      go_quiet (fail)
      have HC' := HC.out
      clear HC
      generalize (if c = j then some (⟨b, off, none⟩ : Addr) else some ⟨b, off + j, none⟩) = A' at HC' ⊢
      have HC := Lib.hid HC'; clear HC'
      go_wp2
      go_ret3
      exact ⟨A', by rw [HN.out]; rfl, HC.out, nq, rfl⟩
end Go.Proofs.Ythaonojcfmnjpaa
