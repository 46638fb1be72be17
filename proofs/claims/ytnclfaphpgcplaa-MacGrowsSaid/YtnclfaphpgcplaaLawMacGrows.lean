/-
  linesidelaw08.MacGrows, walked.
-/
import Derived.Test.YtnclfaphpgcplaaLawMacTurned
import Derived.Test.YtnclfaphpgcplaaZeros
namespace Go.Proofs.Ytnclfaphpgcplaa
open Go.RowKit

theorem mac_at (k : Key4) (hk : k.ok) (A : Option Addr) (c : Nat) (xs : List Nat) (N : Nat) (hN : xs.length = N) (w : World) (ha : At8 w A xs) (hb : bytes8 xs) (hn : xs.length ≤ 100000) :
    Calls Try.prog 9 #[keyV k, .slice A N c] w fun e w' => e = .returned (.int .u64 (macF k xs : Nat)) ∧ Below w.heap.size w w' := by
  subst hN
  exact omc_mac k hk A c xs w ha hb hn

set_option maxRecDepth 100000 in
set_option maxHeartbeats 2000000 in
theorem longer_any (A : Option Addr) (c : Nat) (xs : List Nat) (m : Nat) (w : World) (ha : At8 w A xs) (hno : A = none → c = 0) (hn : xs.length ≤ 2000) (hm : m ≤ 8) :
    Calls Try.prog 13 #[.slice A xs.length c, .int .i64 (m : Nat)] w fun e w' => ∃ A' c', e = .returned (.slice A' (xs.length + m) c') ∧ At8 w' A' (xs ++ List.replicate m 0) ∧ Below w.heap.size w w' := by
  have HSL := Lib.hid (sl_bytes ha hno)
  have HN0 := Lib.hid (World.ownsRow_nil w w.heap.size 5 1)
  have HON := Lib.hid (u8s_one xs)
  have HBD : Hid (0 + xs.length ≤ maxLen ∧ (0 + xs.length) * 1 ≤ 140737488355328 ∧ w.heap.size ≤ w.heap.size) := Lib.hid ⟨by unfold maxLen; omega, by omega, Nat.le_refl _⟩
  clear ha hno
  go_enter Try.func13, Try.ntmps13
  go_upto_region 1 with fail
  go_wp2_with (with_reducible refine wpList_pour (o := ⟨some 7, _, _, _, _, _⟩) rfl (.const (.slice none 0 0)) (.tmp 6) 25 rfl w.heap.size 5 (.int .u8 0) 1 1 Try.underlying25 info_u8 ?hz (by decide) none 0 0 [] ?hs HN0 A xs.length c (u8s xs) ?hx HSL HON HBD ?next)
  all_goals try rfl
  case next =>
    intro A3 c3 w3 ho3 hg3
    have HO3 : Hid (w3.ownsRow w.heap.size 5 1 (.slice A3 xs.length c3) xs.length (u8s xs)) := Lib.hid (by simpa using ho3.out)
    have HW3 := Lib.hid (below_own0 hg3.out)
    have HB2 : Hid (xs.length + m ≤ maxLen ∧ (xs.length + m) * 1 ≤ 140737488355328 ∧ w.heap.size ≤ w3.heap.size) := Lib.hid ⟨by unfold maxLen; omega, by omega, HW3.out.size⟩
    clear ho3 hg3 HSL HN0 HON HBD
    go_wp2_with (with_reducible refine wpList_zeros (o := ⟨some 10, _, _, _, _, _⟩) rfl (.tmp 8) (.tmp 9) 25 3 rfl w.heap.size 5 (.int .u8 0) .i64 .i64 1 Try.underlying25 Try.underlying3 info_u8 rfl rfl A3 xs.length c3 (u8s xs) ?hs2 HO3 m ?hx2 HB2 ?next2)
    all_goals try rfl
    case next2 =>
      intro A4 c4 w4 ho4 hg4
      have HO4 := Lib.hid ho4.out
      have HW4 := Lib.hid (below_own HW3.out HW3.out.size HO3.out (Nat.le_refl _) rfl hg4.out)
      clear ho4 hg4 HO3 HW3 HB2
      go_wp2
      go_ret
      refine ⟨A4, c4, rfl, ?_, HW4.out⟩
      have h := HO4.out
      rw [← u8s_zeros, ← u8s_app] at h
      have hl : (xs ++ List.replicate m 0).length = xs.length + m := by simp
      rw [← hl] at h
      exact at8_own h
theorem longer_at (A : Option Addr) (c : Nat) (xs : List Nat) (N : Nat) (hN : xs.length = N) (m : Nat) (w : World) (ha : At8 w A xs) (hno : A = none → c = 0) (hn : xs.length ≤ 2000) (hm : m ≤ 8) :
    Calls Try.prog 13 #[.slice A N c, .int .i64 (m : Nat)] w fun e w' => ∃ A' c', e = .returned (.slice A' (N + m) c') ∧ Hid (At8 w' A' (xs ++ List.replicate m 0)) ∧ Below w.heap.size w w' := by
  subst hN
  exact longer_any A c xs m w ha hno hn hm
theorem eq_bool {a b c d : Nat} (h : a = b ↔ c = d) : ∃ E : Bool, (((a : Nat) : Int) == ((b : Nat) : Int)) = E ∧ (((c : Nat) : Int) == ((d : Nat) : Int)) = E := by
  by_cases e : a = b
  · have e2 := h.1 e
    subst e; subst e2
    exact ⟨true, by simp, by simp⟩
  · have e2 : ¬ c = d := fun x => e (h.2 x)
    exact ⟨false, by rw [beq_eq_false_iff_ne]; omega, by rw [beq_eq_false_iff_ne]; omega⟩

set_option maxRecDepth 100000 in
set_option maxHeartbeats 4000000 in
theorem macGrows_walk (k : Key4) (A : Option Addr) (n c : Nat) (zs : List Int) (A2 : Option Addr) (n2 c2 : Nat) (zs2 : List Int) (A3 : Option Addr) (n3 c3 : Nat) (zs3 : List Int) (w : World) (hk : k.ok) (h1 : InInts .u8 w A n zs ∧ (A = none → c = 0)) (h2 : InInts .u8 w A2 n2 zs2 ∧ (A2 = none → c2 = 0)) (h3 : InInts .u8 w A3 n3 zs3 ∧ (A3 = none → c3 = 0)) :
    Calls Try.prog 6 #[keyV k, .slice A n c, .slice A2 n2 c2, .slice A3 n3 c3] w fun e w' => e = .returned (.bool true) ∧ Below w.heap.size w w' := by
  obtain ⟨hl, hm1, ha, hb⟩ := h1.1.bytes
  obtain ⟨hl2, hm2, ha2, hb2⟩ := h2.1.bytes
  obtain ⟨hl3, hm3, ha3, hb3⟩ := h3.1.bytes
  obtain ⟨wa, hwa, hba, hsa, hkc⟩ := key_box k w
  have HBA := Lib.hid hba; have HWA := Lib.hid hwa; have HKC := Lib.hid hkc
  have HA := Lib.hid (awake8_any wa)
  have hno := h1.2
  have hno2 := h2.2
  have hno3 := h3.2
  rw [← hl, ← hl2, ← hl3]
  rw [← hl] at hm1
  generalize zs.map Int.toNat = xs at *
  generalize zs2.map Int.toNat = ys at *
  generalize zs3.map Int.toNat = ls at *
  have HAT := Lib.hid (fun W (hW : Below w.heap.size w W) => at8_low8 ha hW)
  have HAT2 := Lib.hid (fun W (hW : Below w.heap.size w W) => at8_low8 ha2 hW)
  have HAT3 := Lib.hid (fun W (hW : Below w.heap.size w W) => at8_low8 ha3 hW)
  have HNO := Lib.hid hno; have HNO2 := Lib.hid hno2; have HNO3 := Lib.hid hno3
  have HK := Lib.hid hk
  have HB := Lib.hid hb; have HB2 := Lib.hid hb2; have HB3 := Lib.hid hb3
  have hm9 : xs.length ≤ 9223372036854775807 := by unfold maxLen at hm1; omega
  unfold keyV keyA at *
  clear hba hwa hkc hsa ha hb ha2 hb2 ha3 hb3 h1 h2 h3 hl hl2 hl3 hk hno hno2 hno3 hm1 hm2 hm3
  go_enter Try.func6, Try.ntmps6
  go_wp2_with fail
  rw [HWA.out]
  clear HWA
  refine HA.out.mono ?_
  rintro e w1 ⟨rfl, hb1⟩
  have HB1 := Lib.hid (HBA.out.trans (hb1.mono HBA.out.size))
  have HK1 := Lib.hid (fun W (hW : Below w1.heap.size w1 W) => HKC.out W (hb1.trans (hW.mono hb1.size)))
  clear hb1 HA HBA HKC
  by_cases hin : xs.length ≤ 2000 ∧ xs.length = ys.length ∧ xs.length % 8 = 0 ∧ ls.length ≤ 8
  · obtain ⟨i1, i2, i3, i4⟩ := hin
    have x1 : ¬ (2000 : Int) < (xs.length : Int) := by omega
    rw [← i2]
    have x3 : (xs.length : Int) % 8 = 0 := by omega
    have x4 : ¬ (8 : Int) < (ls.length : Int) := by omega
    have HMG := Lib.hid (mac_grows HK.out HB.out HB2.out HB3.out (bytes8_zeros ls.length) (q := xs.length / 8) (r := ls.length) (by omega) (by omega) rfl (by simp) i4 (by omega))
    have hyl : ys.length ≤ 2000 := by omega
    have HI2 := Lib.hid i2
    clear i2
    go_upto_region 4 with fail
    have HSX := Lib.hid (sl_bytes (HAT.out w1 HB1.out) HNO.out)
    have HN1 := Lib.hid (World.ownsRow_nil w1 w1.heap.size 5 1)
    have HOX := Lib.hid (u8s_one xs); have HOY := Lib.hid (u8s_one ys); have HOL := Lib.hid (u8s_one ls)
    have HD1 : Hid (0 + xs.length ≤ maxLen ∧ (0 + xs.length) * 1 ≤ 140737488355328 ∧ w1.heap.size ≤ w1.heap.size) := Lib.hid ⟨by unfold maxLen; omega, by omega, Nat.le_refl _⟩
    go_wp2_with (with_reducible refine wpList_pour (o := ⟨some 40, _, _, _, _, _⟩) rfl (.const (.slice none 0 0)) (.tmp 39) 25 rfl w1.heap.size 5 (.int .u8 0) 1 1 Try.underlying25 info_u8 ?hz1 (by decide) none 0 0 [] ?hs1 HN1 A xs.length c (u8s xs) ?hx1 HSX HOX HD1 ?next1)
    all_goals try rfl
    case next1 =>
      intro B1 d1 w2 ho2 hg2
      have HO2 : Hid (w2.ownsRow w1.heap.size 5 1 (.slice B1 xs.length d1) xs.length (u8s xs)) := Lib.hid (by simpa using ho2.out)
      have HW2 := Lib.hid (below_own0 hg2.out)
      have HL2 := Lib.hid (sl_bytes (HAT3.out w2 (HB1.out.trans (HW2.out.mono HB1.out.size))) HNO3.out)
      have HD2 : Hid (xs.length + ls.length ≤ maxLen ∧ (xs.length + ls.length) * 1 ≤ 140737488355328 ∧ w1.heap.size ≤ w2.heap.size) := Lib.hid ⟨by unfold maxLen; omega, by omega, HW2.out.size⟩
      clear ho2 hg2 HSX HN1 HD1
      go_upto_region 5 with fail
      go_wp2_with (with_reducible refine wpList_pour (o := ⟨some 43, _, _, _, _, _⟩) rfl (.tmp 41) (.tmp 42) 25 rfl w1.heap.size 5 (.int .u8 0) 1 1 Try.underlying25 info_u8 ?hz2 (by decide) B1 xs.length d1 (u8s xs) ?hs2 HO2 A3 ls.length c3 (u8s ls) ?hx2 HL2 HOL HD2 ?next2)
      all_goals try rfl
      case next2 =>
        intro B2 d2 w3 ho3 hg3
        have HO3 := Lib.hid ho3.out
        have HW3 := Lib.hid (below_own HW2.out HW2.out.size HO2.out (Nat.le_refl _) rfl hg3.out)
        have hw3 := HB1.out.trans (HW3.out.mono HB1.out.size)
        have HX3 : Hid (At8 w3 B2 (xs ++ ls)) := Lib.hid (by
          have h := HO3.out
          rw [← u8s_app, ← List.length_append] at h
          exact at8_own h)
        have HBW3 := Lib.hid hw3
        have HW13 := Lib.hid HW3.out
        have HSY : Hid (Sl w3 1 A2 xs.length c2 (u8s ys)) := Lib.hid (by rw [HI2.out]; exact sl_bytes (HAT2.out w3 hw3) HNO2.out)
        have HN3 := Lib.hid (World.ownsRow_nil w3 w3.heap.size 5 1)
        have HD3 : Hid (0 + xs.length ≤ maxLen ∧ (0 + xs.length) * 1 ≤ 140737488355328 ∧ w3.heap.size ≤ w3.heap.size) := Lib.hid ⟨by unfold maxLen; omega, by omega, Nat.le_refl _⟩
        clear ho3 hg3 HO3 HW3 HO2 HW2 HL2 HD2 hw3
        go_upto_region 6 with fail
        go_wp2_with (with_reducible refine wpList_pour (o := ⟨some 45, _, _, _, _, _⟩) rfl (.const (.slice none 0 0)) (.tmp 44) 25 rfl w3.heap.size 5 (.int .u8 0) 1 1 Try.underlying25 info_u8 ?hz3 (by decide) none 0 0 [] ?hs3 HN3 A2 xs.length c2 (u8s ys) ?hx3 HSY HOY HD3 ?next3)
        all_goals try rfl
        case next3 =>
          intro B4 d4 w4 ho4 hg4
          have HO4 : Hid (w4.ownsRow w3.heap.size 5 1 (.slice B4 xs.length d4) xs.length (u8s ys)) := Lib.hid (by simpa using ho4.out)
          have HW4 := Lib.hid (below_own0 hg4.out)
          have HL4 := Lib.hid (sl_bytes (HAT3.out w4 (HBW3.out.trans (HW4.out.mono HBW3.out.size))) HNO3.out)
          have HD4 : Hid (xs.length + ls.length ≤ maxLen ∧ (xs.length + ls.length) * 1 ≤ 140737488355328 ∧ w3.heap.size ≤ w4.heap.size) := Lib.hid ⟨by unfold maxLen; omega, by omega, HW4.out.size⟩
          clear ho4 hg4 HSY HN3 HD3
          go_upto_region 7 with fail
          go_wp2_with (with_reducible refine wpList_pour (o := ⟨some 48, _, _, _, _, _⟩) rfl (.tmp 46) (.tmp 47) 25 rfl w3.heap.size 5 (.int .u8 0) 1 1 Try.underlying25 info_u8 ?hz4 (by decide) B4 xs.length d4 (u8s ys) ?hs4 HO4 A3 ls.length c3 (u8s ls) ?hx4 HL4 HOL HD4 ?next4)
          all_goals try rfl
          case next4 =>
            intro B5 d5 w5 ho5 hg5
            have HO5 := Lib.hid ho5.out
            have HW5 := Lib.hid (below_own HW4.out HW4.out.size HO4.out (Nat.le_refl _) rfl hg5.out)
            have hw5 := HBW3.out.trans (HW5.out.mono HBW3.out.size)
            have HY5 : Hid (At8 w5 B5 (ys ++ ls)) := Lib.hid (by
              have h := HO5.out
              rw [← u8s_app, HI2.out, ← List.length_append] at h
              exact at8_own h)
            have HX5 := Lib.hid (at8_low8 HX3.out HW5.out)
            have HBW5 := Lib.hid hw5
            have HCX := Lib.hid (fun W (hW : Below w5.heap.size w5 W) => (mac_at k HK.out B2 d2 (xs ++ ls) (xs.length + ls.length) (by simp) W (at8_low8 HX5.out hW) (bytes8_app HB.out HB3.out) (by simp only [List.length_append]; omega)).mono fun e w' h => And.intro h.1 (hW.trans (h.2.mono hW.size)))
            have HCY := Lib.hid (fun W (hW : Below w5.heap.size w5 W) => (mac_at k HK.out B5 d5 (ys ++ ls) (xs.length + ls.length) (by simp [HI2.out]) W (at8_low8 HY5.out hW) (bytes8_app HB2.out HB3.out) (by simp only [List.length_append]; omega)).mono fun e w' h => And.intro h.1 (hW.trans (h.2.mono hW.size)))
            have HLX := Lib.hid (fun W (hW : Below w5.heap.size w5 W) => (longer_at A c xs xs.length rfl ls.length W (HAT.out W (HBW5.out.trans (hW.mono HBW5.out.size))) HNO.out i1 i4).mono (R' := fun e w' => ∃ A' c', e = .returned (.slice A' (xs.length + ls.length) c') ∧ Hid (At8 w' A' (xs ++ List.replicate ls.length 0)) ∧ Below w5.heap.size w5 w') fun e w' h => by obtain ⟨A', c', he, hA, hB⟩ := h; exact ⟨A', c', he, hA, hW.trans (hB.mono hW.size)⟩)
            have HLY := Lib.hid (fun W (hW : Below w5.heap.size w5 W) => (longer_at A2 c2 ys xs.length HI2.out.symm ls.length W (HAT2.out W (HBW5.out.trans (hW.mono HBW5.out.size))) HNO2.out hyl i4).mono (R' := fun e w' => ∃ A' c', e = .returned (.slice A' (xs.length + ls.length) c') ∧ Hid (At8 w' A' (ys ++ List.replicate ls.length 0)) ∧ Below w5.heap.size w5 w') fun e w' h => by obtain ⟨A', c', he, hA, hB⟩ := h; exact ⟨A', c', he, hA, hW.trans (hB.mono hW.size)⟩)
            have HCZ := Lib.hid (fun W (hW : Below w5.heap.size w5 W) A' c' (ha : At8 W A' (xs ++ List.replicate ls.length 0)) => (mac_at k HK.out A' c' (xs ++ List.replicate ls.length 0) (xs.length + ls.length) (by simp) W ha (bytes8_app HB.out (bytes8_zeros _)) (by simp only [List.length_append, List.length_replicate]; omega)).mono fun e w' h => And.intro h.1 (hW.trans (h.2.mono hW.size)))
            have HCU := Lib.hid (fun W (hW : Below w5.heap.size w5 W) A' c' (ha : At8 W A' (ys ++ List.replicate ls.length 0)) => (mac_at k HK.out A' c' (ys ++ List.replicate ls.length 0) (xs.length + ls.length) (by simp [HI2.out]) W ha (bytes8_app HB2.out (bytes8_zeros _)) (by simp only [List.length_append, List.length_replicate]; omega)).mono fun e w' h => And.intro h.1 (hW.trans (h.2.mono hW.size)))
            have HW15 := Lib.hid (HW13.out.trans (HW5.out.mono HW13.out.size))
            have HKC := Lib.hid (fun W (hW : Below w5.heap.size w5 W) => HK1.out W (HW15.out.trans (hW.mono HW15.out.size)))
            obtain ⟨E, b1, b2⟩ := eq_bool HMG.out
            have hbd : Below w5.heap.size w5 w5.drew := below_draws (Below.refl _ _) 1
            unfold keyV keyA at *
            generalize macF k (xs ++ ls) = m1 at *
            generalize macF k (ys ++ ls) = m2 at *
            generalize macF k (xs ++ List.replicate ls.length 0) = m3 at *
            generalize macF k (ys ++ List.replicate ls.length 0) = m4 at *
            clear ho5 hg5 hw5 HO4 HW4 HL4 HD4 HO5 HW5 HMG HX5 HY5 HX3 HOX HOY HOL HBW3 HW13 HW15 HI2 hyl HK HB HB2 HB3 HNO HNO2 HNO3 HAT HAT2 HAT3 HK1
            go_wp2_with fail
            go_region_held3 (fun W => W.cell? ⟨w.heap.size, 0, none⟩ = some (.int .u32 (k.a : Nat)) ∧ W.cell? ⟨w.heap.size, 1, none⟩ = some (.int .u32 (k.b : Nat)) ∧ W.cell? ⟨w.heap.size, 2, none⟩ = some (.int .u32 (k.c : Nat)) ∧ W.cell? ⟨w.heap.size, 3, none⟩ = some (.int .u32 (k.d : Nat))) (first | exact HKC.out _ (by assumption) | go_keep) (first
              | (go_at_call 9; with_reducible refine (HCX.out _ (by assumption)).mono ?_; rintro e v0 ⟨rfl, hc0⟩)
              | (go_at_call 9; with_reducible refine (HCY.out _ (by assumption)).mono ?_; rintro e v1 ⟨rfl, hc1⟩)
              | (go_at_call 13; with_reducible refine (HLX.out _ (by assumption)).mono ?_; rintro e v2 ⟨E3, e3, rfl, ha3, hc2⟩)
              | (go_at_call 9; with_reducible refine (HCZ.out _ (by assumption) _ _ ha3.out).mono ?_; rintro e v3 ⟨rfl, hc3⟩)
              | (go_at_call 13; with_reducible refine (HLY.out _ (by assumption)).mono ?_; rintro e v4 ⟨E4, e4, rfl, ha4, hc4⟩)
              | (go_at_call 9; with_reducible refine (HCU.out _ (by assumption) _ _ ha4.out).mono ?_; rintro e v5 ⟨rfl, hc5⟩))
            have HBF := Lib.hid (HBW5.out.trans (hc5.mono HBW5.out.size))
            go_wp2
            go_ret
            exact ⟨by simp, HBF.out⟩
  · go_wp2
    all_goals go_ret
    all_goals first
      | exact ⟨rfl, HB1.out⟩
      | (exfalso; omega)
end Go.Proofs.Ytnclfaphpgcplaa
