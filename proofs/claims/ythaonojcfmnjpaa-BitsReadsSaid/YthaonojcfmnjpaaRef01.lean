/-
  linesideref01: the document's answer for bits, function by function.
-/
import Derived.Test.YthaonojcfmnjpaaBitsAny
namespace Go.Proofs.Ythaonojcfmnjpaa
open Go.RowKit
open BitsM

theorem ret_int {k : IntKind} {a b : Int} (h : a = b) : Ending.returned (.int k a) = .returned (.int k b) := by rw [h]

set_option maxHeartbeats 400000 in
theorem power_any (n R : Nat) (hn : n ≤ 40) (hR : R = 2 ^ n) (w : World) :
    Calls Try.prog 23 #[.int .i64 (n : Nat)] w fun e w' => e = .returned (.int .i64 (R : Nat)) ∧ w = w' := by
  have HR := Lib.hid hR; clear hR
  go_enter Try.func23, Try.ntmps23
  go_wp2
  go_loop [3, 4] (fun p i => ∃ k : Nat, k ≤ n ∧ i = .int .i64 k ∧ p = .int .i64 ((2 ^ k : Nat) : Int)) (fun _ i => n - (intOf i).toNat)
  case atStart => exact ⟨0, by omega, rfl, rfl⟩
  case round =>
    obtain ⟨k, hk, rfl, rfl⟩ := hrel
    obtain ⟨P, hP⟩ : ∃ P, P = 2 ^ k := ⟨_, rfl⟩
    rw [← hP]
    have hPb : P ≤ 1099511627776 := by
      have h3 : (2 : Nat) ^ k ≤ 2 ^ 40 := Nat.pow_le_pow_right (by omega) (by omega)
      omega
    have HP := Lib.hid hP; clear hP
    by_cases hlt : k < n
    · go_wp2
      go_round
      case rel => exact ⟨k + 1, by omega, by go_num, by rw [Nat.pow_succ, ← HP.out]; go_num⟩
      case measure => simp [intOf]; omega
    · go_wp2
      go_ret
      obtain rfl : k = n := by omega
      exact ⟨ret_int (by rw [HR.out, HP.out]), rfl⟩

set_option maxHeartbeats 400000 in
theorem may_no (n k : Int) (h : (k < 1 ∨ 32 < k) ∨ n < 0) (w : World) :
    Calls Try.prog 22 #[.int .i64 n, .int .i64 k] w fun e w' => e = .returned (.bool false) ∧ w = w' := by
  by_cases h1 : k < 1
  · go_enter Try.func22, Try.ntmps22
    go_wp2
    go_ret
    exact ⟨rfl, rfl⟩
  by_cases h2 : 32 < k
  · go_enter Try.func22, Try.ntmps22
    go_wp2
    go_ret
    exact ⟨rfl, rfl⟩
  · have h3 : ¬ 0 ≤ n := by omega
    clear h
    go_enter Try.func22, Try.ntmps22
    go_wp2
    go_ret
    exact ⟨rfl, rfl⟩

set_option maxHeartbeats 400000 in
theorem may_lt (n : Int) (k R : Nat) (h1 : 1 ≤ k) (h2 : k ≤ 32) (h3 : 0 ≤ n) (hR : R = 2 ^ k) (b : Bool) (hb : decide (n < (R : Int)) = b) (w : World) :
    Calls Try.prog 22 #[.int .i64 n, .int .i64 k] w fun e w' => e = .returned (.bool b) ∧ w = w' := by
  have i1 : ¬ (k : Int) < 1 := by omega
  have i2 : ¬ 32 < (k : Int) := by omega
  have HR := Lib.hid hR; clear hR
  have HB := Lib.hid hb; clear hb
  go_enter Try.func22, Try.ntmps22
  go_wp2_with (first | (go_at_call 23; refine (power_any k R (by omega) HR.out _).mono ?_; rintro e w' ⟨rfl, rfl⟩))
  go_ret
  have e := HB.out
  subst e
  exact ⟨rfl, rfl⟩

theorem may_any (n k : Int) (w : World) :
    Calls Try.prog 22 #[.int .i64 n, .int .i64 k] w fun e w' => e = .returned (.bool (decide (1 ≤ k ∧ k ≤ 32 ∧ 0 ≤ n ∧ n < ((2 ^ k.toNat : Nat) : Int)))) ∧ w = w' := by
  by_cases h : 1 ≤ k ∧ k ≤ 32 ∧ 0 ≤ n
  · have e : ((k.toNat : Nat) : Int) = k := by omega
    have hc := may_lt n k.toNat (2 ^ k.toNat) (by omega) (by omega) h.2.2 rfl _ rfl w
    rw [e] at hc
    have e2 : decide (1 ≤ k ∧ k ≤ 32 ∧ 0 ≤ n ∧ n < ((2 ^ k.toNat : Nat) : Int)) = decide (n < ((2 ^ k.toNat : Nat) : Int)) := by
      rw [decide_eq_decide]
      exact ⟨fun x => x.2.2.2, fun x => ⟨h.1, h.2.1, h.2.2, x⟩⟩
    rw [e2]
    exact hc
  · have e2 : decide (1 ≤ k ∧ k ≤ 32 ∧ 0 ≤ n ∧ n < ((2 ^ k.toNat : Nat) : Int)) = false := decide_eq_false fun x => h ⟨x.1, x.2.1, x.2.2.1⟩
    rw [e2]
    exact may_no n k (by omega) w

def bools (l : List Bool) : List Value := l.map Value.bool
theorem bools_length (l : List Bool) : (bools l).length = l.length := by simp [bools]
theorem bools_snoc (l : List Bool) (b : Bool) : bools (l ++ [b]) = bools l ++ [.bool b] := by simp [bools]
theorem bools_one (l : List Bool) : ∀ v ∈ bools l, v.oneCell' = true := by
  intro v hv
  simp only [bools, List.mem_map] at hv
  obtain ⟨b, _, rfl⟩ := hv
  rfl
theorem info_bool : (Try.prog.info? 4).map (fun i => (i.zero, i.size, i.bytes)) = some (some (.bool false), 1, 1) := by kernel_rfl

/-- A slice of Booleans, of such bits. -/
def SlB (w : World) (A : Option Addr) (m c : Nat) (bs : List Bool) : Prop := bs.length = m ∧ Sl w 1 A m c (bools bs)

set_option maxHeartbeats 400000 in
theorem refPut_arg (A : Option Addr) (m c : Nat) (n k : Int) (h : ¬ (1 ≤ k ∧ k ≤ 32 ∧ 0 ≤ n ∧ n < ((2 ^ k.toNat : Nat) : Int))) (w : World) :
    Calls Try.prog 11 #[.slice A m c, .int .i64 n, .int .i64 k] w fun e w' => e = .returned (.tuple #[.slice A m c, .int .i64 1]) ∧ w = w' := by
  have hc := may_any n k w
  rw [decide_eq_false h] at hc
  clear h
  go_enter Try.func11, Try.ntmps11
  go_wp2_with fail
  refine hc.mono ?_
  rintro e w' ⟨rfl, rfl⟩
  go_wp2
  go_ret2
  exact ⟨rfl, rfl⟩

set_option maxHeartbeats 400000 in
theorem refPut_long (A : Option Addr) (m c : Nat) (n k : Int) (h : 1 ≤ k ∧ k ≤ 32 ∧ 0 ≤ n ∧ n < ((2 ^ k.toNat : Nat) : Int)) (hm : m ≤ 8184) (hl : 8184 < (m : Int) + k) (w : World) :
    Calls Try.prog 11 #[.slice A m c, .int .i64 n, .int .i64 k] w fun e w' => e = .returned (.tuple #[.slice A m c, .int .i64 2]) ∧ w = w' := by
  have hc := may_any n k w
  rw [decide_eq_true h] at hc
  have h1 := h.1
  have h2 := h.2.1
  clear h
  go_enter Try.func11, Try.ntmps11
  go_wp2_with fail
  refine hc.mono ?_
  rintro e w' ⟨rfl, rfl⟩
  go_wp2
  go_ret2
  exact ⟨rfl, rfl⟩

set_option maxRecDepth 100000 in
set_option maxHeartbeats 1000000 in
theorem refPut_fits (A : Option Addr) (m c : Nat) (bs : List Bool) (n k : Nat) (h1 : 1 ≤ k) (h2 : k ≤ 32) (h : n < 2 ^ k) (w : World) (hs : SlB w A m c bs) (hl : m + k ≤ 8184) :
    Calls Try.prog 11 #[.slice A m c, .int .i64 n, .int .i64 k] w fun e w' =>
      ∃ A' c', e = .returned (.tuple #[.slice A' (m + k) c', .int .i64 0]) ∧ w'.ownsRow w.heap.size 4 1 (.slice A' (m + k) c') (m + k) (bools (bs ++ wbits n k k)) ∧ Below w.heap.size w w' := by
  have hc := may_any n k w
  rw [decide_eq_true (by rw [Int.toNat_natCast]; omega)] at hc
  have i1 : (1 : Int) ≤ k := by omega
  have i2 : (k : Int) ≤ 32 := by omega
  have i3 : (m : Int) + k ≤ 8184 := by omega
  have hnb : n < 4294967296 := by
    have h3 : (2 : Nat) ^ k ≤ 2 ^ 32 := Nat.pow_le_pow_right (by omega) h2
    omega
  have HSL := Lib.hid hs.2
  have HM := Lib.hid hs.1
  clear hs h
  go_enter Try.func11, Try.ntmps11
  go_wp2_with fail
  refine hc.mono ?_
  clear hc
  rintro e w' ⟨rfl, rfl⟩
  have HO0 := Lib.hid (World.ownsRow_nil w w.heap.size 4 1)
  have HBD : Hid (0 + m ≤ maxLen ∧ (0 + m) * 1 ≤ 140737488355328 ∧ w.heap.size ≤ w.heap.size) := ⟨by unfold maxLen; omega, by omega, Nat.le_refl _⟩
  have HB1 := Lib.hid (bools_one bs)
  go_wp2_with (with_reducible refine wpList_pour (o := ⟨some 24, _, _, _, _, _⟩) rfl (.const (.slice none 0 0)) (.tmp 23) 28 rfl w.heap.size 4 (.bool false) 1 1 Try.underlying28 info_bool ?hz (by decide) none 0 0 [] ?hs HO0 A m c (bools bs) ?hx HSL HB1 HBD ?next)
  case hz => rfl
  case hs => rfl
  case hx => rfl
  case next =>
    intro A2 c2 w2 ho2 hg2
    have HB2 := Lib.hid (below_own (Below.refl w.heap.size w) (Nat.le_refl _) HO0.out (Nat.le_refl _) rfl hg2.out)
    have HO2 := ho2
    clear ho2 hg2 HO0 HBD HB1
    go_wp2_with fail
    go_loopw [9, 10] (fun v i wr => ∃ (j : Nat) (A3 : Option Addr) (c3 : Nat), j ≤ k ∧ i = .int .i64 ((k : Int) - 1 - j) ∧ v = .slice A3 (m + j) c3 ∧
      wr.ownsRow w.heap.size 4 1 (.slice A3 (m + j) c3) (m + j) (bools (bs ++ wbits n k j)) ∧ Below w.heap.size w wr) (fun _ i _ => (intOf i + 1).toNat)
    case atStart => exact ⟨0, A2, c2, by omega, by simp, rfl, by simpa [wbits_zero] using HO2.out, HB2.out⟩
    case round =>
      obtain ⟨j, A3, c3, hj, rfl, rfl, ho, hb⟩ := hrel
      clear HO2 HB2
      have HO := Lib.hid ho; clear ho
      have HB := Lib.hid hb; clear hb
      by_cases hlt : j < k
      · obtain ⟨R, hR⟩ : ∃ R, R = 2 ^ (k - 1 - j) := ⟨_, rfl⟩
        have hRp : 0 < R := by rw [hR]; exact Nat.two_pow_pos _
        have c6 := power_any (k - 1 - j) R (by omega) hR wr
        rw [show ((k - 1 - j : Nat) : Int) = (k : Int) - 1 - j from by omega] at c6
        have HR := Lib.hid hR; clear hR
        go_wp2_with fail
        refine c6.mono ?_
        clear c6
        rintro e w4 ⟨rfl, rfl⟩
        obtain ⟨q, hq⟩ : ∃ q, q = n / R := ⟨_, rfl⟩
        obtain ⟨T, hT⟩ : ∃ T, T = n.testBit (k - 1 - j) := ⟨_, rfl⟩
        have hqn : q ≤ n := by rw [hq]; exact Nat.div_le_self _ _
        have hnr : (n : Int) / (R : Int) = (q : Int) := by rw [hq]; simp
        have hqT : ((q : Int) % 2 == 1) = T := by
          rw [hT, Nat.testBit_eq_decide_div_mod_eq, hq, HR.out, Bool.eq_iff_iff, beq_iff_eq, decide_eq_true_eq]
          omega
        have HT := Lib.hid hT
        clear hq hT
        have HN := Lib.hid (show ([.bool T] : List Value).length = 1 * 1 from rfl)
        have HO3 := Lib.hid (HO.out.alloc (Obj.cells #[.bool T] 4))
        have HC : Hid (∀ i u, ([.bool T] : List Value)[i]? = some u → (wr.alloc (.cells #[.bool T] 4)).cell? ((⟨wr.heap.size, 0, none⟩ : Addr).add i) = some u) := by
          intro i u hu
          rw [WideShapes.add_plain, (Has.made wr 4 #[.bool T]).cell, Nat.zero_add]
          simpa using hu
        have H1 : Hid (∀ u ∈ ([.bool T] : List Value), u.oneCell' = true) := by
          intro u hu
          simp only [List.mem_singleton] at hu
          subst hu
          rfl
        have HBD : Hid (m + j + 1 ≤ maxLen ∧ (m + j + 1) * 1 ≤ 140737488355328 ∧ w.heap.size ≤ (wr.alloc (.cells #[.bool T] 4)).heap.size) := by
          refine ⟨by unfold maxLen; omega, by omega, ?_⟩
          have := HB.out.size
          simp
          omega
        have HB3 := Lib.hid (HB.out.alloc HB.out.size (Obj.cells #[.bool T] 4))
        go_wp2_with (with_reducible refine wpList_push (o := ⟨some 39, _, _, _, _, _⟩) rfl (.tmp 31) (.tmp 38) 28 rfl w.heap.size 4 (.bool false) 1 1 Try.underlying28 info_bool ?hz (by decide) A3 (m + j) c3 (bools (bs ++ wbits n k j)) ?hs HO3 ⟨wr.heap.size, 0, none⟩ 1 1 [.bool T] ?hx HN HC H1 HBD ?next)
        case hz => rfl
        case hs => rfl
        case hx => rfl
        case next =>
          intro A4 c4 w4 ho4 hg4
          clear hqT hnr
          go_wp2
          go_roundw
          case rel =>
            have e : bools (bs ++ wbits n k (j + 1)) = bools (bs ++ wbits n k j) ++ [.bool T] := by
              rw [wbits_succ, ← List.append_assoc, bools_snoc, ← HT.out]
            refine ⟨j + 1, A4, c4, by omega, by go_num, rfl, ?_, below_own HB3.out HBD.out.2.2 HO3.out (Nat.le_refl _) rfl hg4.out⟩
            rw [e]
            exact ho4.out
          case measure => simp [intOf]; omega
      · obtain rfl : j = k := by omega
        go_wp2
        go_ret2
        exact ⟨A3, c3, rfl, HO.out, HB.out⟩
theorem refPut_any (A : Option Addr) (m c : Nat) (bs : List Bool) (n k : Int) (w : World) (hs : SlB w A m c bs) (hm : m ≤ 8184) :
    Calls Try.prog 11 #[.slice A m c, .int .i64 n, .int .i64 k] w fun e w' =>
      ∃ A' c', e = .returned (.tuple #[.slice A' (putB bs n k).length c', .int .i64 (putE bs n k)]) ∧ SlB w' A' (putB bs n k).length c' (putB bs n k) ∧ Below w.heap.size w w' := by
  have hlen := hs.1
  by_cases h : 1 ≤ k ∧ k ≤ 32 ∧ 0 ≤ n ∧ n < ((2 ^ k.toNat : Nat) : Int)
  · by_cases hl : bs.length + k.toNat ≤ 8184
    · have e1 : putE bs n k = 0 := by unfold putE; rw [if_pos h, if_pos hl]
      have e2 := putB_ok e1
      have e3 : (putB bs n k).length = m + k.toNat := by rw [e2, List.length_append, wbits_length, hlen]
      rw [e1]
      have hc := refPut_fits A m c bs n.toNat k.toNat (by omega) (by omega) (by omega) w hs (by omega)
      rw [show ((n.toNat : Nat) : Int) = n from by omega, show ((k.toNat : Nat) : Int) = k from by omega] at hc
      refine hc.mono ?_
      rintro e w' ⟨A', c', rfl, ho, hb⟩
      refine ⟨A', c', by rw [e3], ⟨rfl, ?_⟩, hb⟩
      rw [e3, e2]
      exact Sl.of_own ho
    · have e1 : putE bs n k = 2 := by unfold putE; rw [if_pos h, if_neg hl]
      have e2 := putB_no (bs := bs) (n := n) (k := k) (by rw [e1]; decide)
      rw [e1, e2]
      exact (refPut_long A m c n k h hm (by omega) w).mono fun e w' ⟨he, hw⟩ => ⟨A, c, by rw [he, hlen], by rw [← hw, hlen]; exact hs, hw ▸ Below.refl _ _⟩
  · have e1 : putE bs n k = 1 := by unfold putE; rw [if_neg h]
    have e2 := putB_no (bs := bs) (n := n) (k := k) (by rw [e1]; decide)
    rw [e1, e2]
    exact (refPut_arg A m c n k h w).mono fun e w' ⟨he, hw⟩ => ⟨A, c, by rw [he, hlen], by rw [← hw, hlen]; exact hs, hw ▸ Below.refl _ _⟩

theorem slB_nil (w : World) : SlB w none 0 0 [] := ⟨rfl, sl_nil w 1⟩
theorem SlB.under {w w' : World} {A : Option Addr} {m c : Nat} {bs : List Bool} (h : SlB w A m c bs) (hb : Below w.heap.size w w') : SlB w' A m c bs := ⟨h.1, h.2.under hb⟩
theorem SlB.grow {w w' : World} {A : Option Addr} {m c : Nat} {bs : List Bool} {g : Nat} {t : TypeId} {cs : Array Value} (h : SlB w A m c bs) (hg : w.grownBy w' (some g)) (hh : Has w g t cs) (hn : ∀ v ∈ cs, ∀ b, v ≠ .bool b) : SlB w' A m c bs := by
  refine ⟨h.1, h.2.1, h.2.2.1, fun ad ha j u hu => ?_⟩
  have h0 := h.2.2.2 ad ha j u hu
  have hblk := cell_block h0
  have hne : (ad.add j).block ≠ g := by
    intro e
    clear hblk
    generalize ad.add j = a at h0 e
    obtain ⟨b, off, spot⟩ := a
    have e' : b = g := e
    subst e'
    have hs : spot = none := World.cell?_spot h0
    subst hs
    rw [hh.cell] at h0
    have hmem := Array.mem_of_getElem? h0
    have hu' : u ∈ bools bs := List.mem_of_getElem? hu
    simp only [bools, List.mem_map] at hu'
    obtain ⟨b, _, rfl⟩ := hu'
    exact hn _ hmem b rfl
  rw [World.cell?_of_block (hg.block (ad.add j).block hblk (fun e => hne (by injection e)))]
  exact h0

theorem sl_bool {w : World} {A : Option Addr} {m c : Nat} {bs : List Bool} (h : SlB w A m c bs) {j : Nat} (hj : j < m) : ∃ b off, A = some ⟨b, off, none⟩ ∧ w.cell? ⟨b, off + j, none⟩ = some (.bool (bs.getD j false)) := by
  have hl := h.1
  have e : (bools bs)[j]? = some (.bool (bs.getD j false)) := by
    have : j < bs.length := by omega
    simp [bools, List.getD_eq_getElem?_getD, this]
  exact h.2.at_ e

/-- The bits of byte j, the first t of them. -/
def octet (bs : List Bool) (j t : Nat) : List Bool := (List.range t).map fun i => bs.getD (8 * j + i) false
theorem octet_succ (bs : List Bool) (j t : Nat) : octet bs j (t + 1) = octet bs j t ++ [bs.getD (8 * j + t) false] := by simp [octet, List.range_succ]
theorem octet_byte (bs : List Bool) (j : Nat) : num (octet bs j 8) = byteAt bs j := rfl
theorem octet_lt (bs : List Bool) (j t : Nat) (h : t ≤ 8) : num (octet bs j t) < 256 := by
  have := num_lt (octet bs j t)
  have h2 : (octet bs j t).length = t := by simp [octet]
  rw [h2] at this
  have h3 : (2 : Nat) ^ t ≤ 2 ^ 8 := Nat.pow_le_pow_right (by omega) h
  omega

set_option maxRecDepth 100000 in
set_option maxHeartbeats 2000000 in
theorem refBytes_any (A : Option Addr) (m c : Nat) (bs : List Bool) (w : World) (hs : SlB w A m c bs) (hm : m ≤ 8184) :
    Calls Try.prog 15 #[.slice A m c] w fun e w' =>
      ∃ A' c', e = .returned (.slice A' ((m + 7) / 8) c') ∧ w'.ownsRow w.heap.size 5 1 (.slice A' ((m + 7) / 8) c') ((m + 7) / 8) (u8s ((List.range ((m + 7) / 8)).map (byteAt bs))) ∧ Below w.heap.size w w' := by
  have HS := Lib.hid hs; clear hs
  go_enter Try.func15, Try.ntmps15
  go_wp2
  go_loopw [3, 4] (fun v i wr => ∃ (j : Nat) (A3 : Option Addr) (c3 : Nat), j ≤ (m + 7) / 8 ∧ i = .int .i64 ((8 * j : Nat) : Int) ∧ v = .slice A3 j c3 ∧
      wr.ownsRow w.heap.size 5 1 (.slice A3 j c3) j (u8s ((List.range j).map (byteAt bs))) ∧ Below w.heap.size w wr) (fun _ i _ => m + 8 - (intOf i).toNat)
  case atStart => exact ⟨0, none, 0, by omega, rfl, rfl, World.ownsRow_nil _ _ _ _, Below.refl _ _⟩
  case round =>
    obtain ⟨j, A3, c3, hj, rfl, rfl, ho, hb⟩ := hrel
    have HO := Lib.hid ho; clear ho
    have HB := Lib.hid hb; clear hb
    have HS2 := Lib.hid (HS.out.under HB.out)
    by_cases hlt : 8 * j < m
    · go_wp2_with fail
      go_loop [5, 6] (fun n k => ∃ t : Nat, t ≤ 8 ∧ k = .int .i64 ((8 * j + t : Nat) : Int) ∧ n = .int .i64 (num (octet bs j t) : Nat)) (fun _ k => 8 * j + 8 - (intOf k).toNat)
      case atStart => exact ⟨0, by omega, by go_num, rfl⟩
      case round =>
        obtain ⟨t, ht, rfl, rfl⟩ := hrel
        obtain ⟨N, hN⟩ : ∃ N, N = num (octet bs j t) := ⟨_, rfl⟩
        have hNb : N < 256 := by rw [hN]; exact octet_lt bs j t ht
        rw [← hN]
        have HN := Lib.hid hN; clear hN
        by_cases ht8 : t < 8
        · have hsucc : num (octet bs j (t + 1)) = 2 * N + (bs.getD (8 * j + t) false).toNat := by rw [octet_succ, num_snoc, HN.out]
          by_cases hin : 8 * j + t < m
          · obtain ⟨b, off, rfl, hc⟩ := sl_bool HS2.out hin
            obtain ⟨T, hT⟩ : ∃ T, T = bs.getD (8 * j + t) false := ⟨_, rfl⟩
            rw [← hT] at hc hsucc
            have HU := Lib.hid hsucc; clear hsucc hT
            cases T
            all_goals
              go_wp2
              go_round
              case rel => exact ⟨t + 1, by omega, by go_num, by rw [HU.out]; go_num⟩
              case measure => simp [intOf]; omega
          · have hz : bs.getD (8 * j + t) false = false := by
              rw [List.getD_eq_getElem?_getD, List.getElem?_eq_none (by have := HS.out.1; omega)]
              rfl
            rw [hz] at hsucc
            have HU := Lib.hid hsucc; clear hsucc hz
            go_wp2
            go_round
            case rel => exact ⟨t + 1, by omega, by go_num, by rw [HU.out]; go_num⟩
            case measure => simp [intOf]; omega
        · obtain rfl : t = 8 := by omega
          rw [octet_byte] at HN
          have HNN := Lib.hid (show ([.int .u8 (N : Int)] : List Value).length = 1 * 1 from rfl)
          have HO3 := Lib.hid (HO.out.alloc (Obj.cells #[.int .u8 (N : Int)] 5))
          have HC : Hid (∀ i u, ([.int .u8 (N : Int)] : List Value)[i]? = some u → (wr.alloc (.cells #[.int .u8 (N : Int)] 5)).cell? ((⟨wr.heap.size, 0, none⟩ : Addr).add i) = some u) := by
            intro i u hu
            rw [WideShapes.add_plain, (Has.made wr 5 #[.int .u8 (N : Int)]).cell, Nat.zero_add]
            simpa using hu
          have H1 : Hid (∀ u ∈ ([.int .u8 (N : Int)] : List Value), u.oneCell' = true) := by
            intro u hu
            simp only [List.mem_singleton] at hu
            subst hu
            rfl
          have HBD : Hid (j + 1 ≤ maxLen ∧ (j + 1) * 1 ≤ 140737488355328 ∧ w.heap.size ≤ (wr.alloc (.cells #[.int .u8 (N : Int)] 5)).heap.size) := by
            refine ⟨by unfold maxLen; omega, by omega, ?_⟩
            have := HB.out.size
            simp
            omega
          have HB3 := Lib.hid (HB.out.alloc HB.out.size (Obj.cells #[.int .u8 (N : Int)] 5))
          go_wp2_with (with_reducible refine wpList_push (o := ⟨some 38, _, _, _, _, _⟩) rfl (.tmp 34) (.tmp 37) 36 rfl w.heap.size 5 (.int .u8 0) 1 1 Try.underlying36 info_u8 ?hz (by decide) A3 j c3 (u8s ((List.range j).map (byteAt bs))) ?hs HO3 ⟨wr.heap.size, 0, none⟩ 1 1 [.int .u8 (N : Int)] ?hx HNN HC H1 HBD ?next)
          case next =>
            intro A4 c4 w4 ho4 hg4
            go_wp2
            go_roundw
            case rel =>
              have e : u8s ((List.range (j + 1)).map (byteAt bs)) = u8s ((List.range j).map (byteAt bs)) ++ [.int .u8 (N : Int)] := by
                simp [u8s, List.range_succ, HN.out]
              refine ⟨j + 1, A4, c4, by omega, by go_num, rfl, ?_, below_own HB3.out HBD.out.2.2 HO3.out (Nat.le_refl _) rfl hg4.out⟩
              rw [e]
              exact ho4.out
            case measure => simp [intOf]; omega
    · obtain rfl : j = (m + 7) / 8 := by omega
      go_wp2
      go_ret
      exact ⟨A3, c3, rfl, HO.out, HB.out⟩

end Go.Proofs.Ythaonojcfmnjpaa
