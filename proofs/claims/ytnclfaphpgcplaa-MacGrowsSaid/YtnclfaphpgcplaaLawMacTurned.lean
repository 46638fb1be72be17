/-
  linesidelaw08.MacTurned, walked.
-/
import Derived.Test.YtnclfaphpgcplaaLawAwake08
import Derived.Test.YtnclfaphpgcplaaOpen
import Derived.Test.YtnclfaphpgcplaaByteKit
import Derived.StillTailTactics
import Derived.Deep.RegionHeld3
import Derived.Laws.OwnMore
namespace Go.Proofs.Ytnclfaphpgcplaa
open Go.RowKit

/-- Bytes of which the first i behind place 8 j are turned. -/
def turnF (j : Nat) (ys xs : List Nat) : Nat → List Nat
  | 0 => xs
  | i + 1 => (turnF j ys xs i).set (8 * j + i) ((turnF j ys xs i).getD (8 * j + i) 0 ^^^ ys.getD i 0)
theorem turn_succ (j : Nat) (ys xs : List Nat) (i : Nat) : turnF j ys xs (i + 1) = (turnF j ys xs i).set (8 * j + i) ((turnF j ys xs i).getD (8 * j + i) 0 ^^^ ys.getD i 0) := rfl
theorem turn_len (j : Nat) (ys xs : List Nat) : ∀ i, (turnF j ys xs i).length = xs.length
  | 0 => rfl
  | i + 1 => by rw [turnF, List.length_set, turn_len]
theorem turn_8 {j : Nat} {ys xs : List Nat} (hy : bytes8 ys) (hx : bytes8 xs) : ∀ i, bytes8 (turnF j ys xs i)
  | 0 => hx
  | i + 1 => by
    rw [turnF]
    intro v hv
    rcases List.mem_or_eq_of_mem_set hv with h | h
    · exact turn_8 hy hx i v h
    · rw [h]; exact xor8 (getD_lt (turn_8 hy hx i) _) (getD_lt hy _)
theorem turn_else {j : Nat} {ys xs : List Nat} : ∀ i, i ≤ 8 → ∀ p, p / 8 ≠ j → (turnF j ys xs i).getD p 0 = xs.getD p 0
  | 0, _, _, _ => rfl
  | i + 1, hi, p, hp => by
    rw [turnF, List.getD_eq_getElem?_getD, List.getElem?_set_ne (by omega), ← List.getD_eq_getElem?_getD]
    exact turn_else i (by omega) p hp
theorem turn_over {j : Nat} {ys xs : List Nat} {i : Nat} (h : xs.length ≤ 8 * j + i) : turnF j ys xs (i + 1) = turnF j ys xs i := by
  rw [turnF, List.set_eq_of_length_le (by rw [turn_len]; exact h)]
set_option maxRecDepth 100000 in
set_option maxHeartbeats 4000000 in
theorem macTurned_walk (k : Key4) (A : Option Addr) (n c : Nat) (zs : List Int) (blk : Int) (A2 : Option Addr) (n2 c2 : Nat) (zs2 : List Int) (w : World) (hk : k.ok) (h1 : InInts .u8 w A n zs ∧ (A = none → c = 0)) (hblk : (Lit.int .i64 blk).wf = true) (h2 : InInts .u8 w A2 n2 zs2 ∧ (A2 = none → c2 = 0)) :
    Calls Try.prog 5 #[keyV k, .slice A n c, .int .i64 blk, .slice A2 n2 c2] w fun e w' => e = .returned (.bool true) ∧ Below w.heap.size w w' := by
  obtain ⟨hl, _, ha, hb⟩ := h1.1.bytes
  obtain ⟨hl2, hm2, ha2, hb2⟩ := h2.1.bytes
  obtain ⟨wa, hwa, hba, hsa, hkc⟩ := key_box k w
  have HBA := Lib.hid hba; have HWA := Lib.hid hwa; have HKC := Lib.hid hkc
  have HA := Lib.hid (awake8_any wa)
  rw [← hl, ← hl2]
  rw [← hl2] at hm2
  have hno := h1.2
  generalize zs.map Int.toNat = xs at *
  generalize zs2.map Int.toNat = ys at *
  have HAT := Lib.hid (fun W (hW : Below w.heap.size w W) => at8_low8 ha hW)
  have HAT2 := Lib.hid (fun W (hW : Below w.heap.size w W) => at8_low8 ha2 hW)
  have HNO := Lib.hid hno
  have HK := Lib.hid hk
  have HB := Lib.hid hb; have HB2 := Lib.hid hb2
  unfold keyV keyA at *
  clear hba hwa hkc hsa ha hb ha2 hb2 h1 h2 hl hl2 hk hno
  have hm9 : ys.length ≤ 9223372036854775807 := by unfold maxLen at hm2; omega
  clear hm2
  go_enter Try.func5, Try.ntmps5
  go_wp2_with fail
  rw [HWA.out]
  clear HWA
  refine HA.out.mono ?_
  rintro e w1 ⟨rfl, hb1⟩
  have HB1 := Lib.hid (HBA.out.trans (hb1.mono HBA.out.size))
  have HK1 := Lib.hid (fun W (hW : Below w1.heap.size w1 W) => HKC.out W (hb1.trans (hW.mono hb1.size)))
  clear hb1 HA HBA HKC
  by_cases hin : xs.length ≤ 2000
  · have x1 : ¬ (2000 : Int) < (xs.length : Int) := by omega
    by_cases h0 : 0 ≤ blk
    · have x2 : ¬ blk < 0 := by omega
      obtain ⟨j, rfl⟩ : ∃ j : Nat, blk = j := ⟨blk.toNat, by omega⟩
      by_cases hj : j ≤ xs.length / 8
      · have x3 : ¬ (xs.length : Int) / 8 < (j : Int) := by omega
        go_upto_region 4 with fail
        have HSL := Lib.hid (sl_bytes (HAT.out w1 HB1.out) HNO.out)
        have HN0 := Lib.hid (World.ownsRow_nil (w := w1) (base := w1.heap.size) (e := 5) (size := 1))
        have HON := Lib.hid (u8s_one xs)
        have HBD : Hid (0 + xs.length ≤ maxLen ∧ (0 + xs.length) * 1 ≤ 140737488355328 ∧ w1.heap.size ≤ w1.heap.size) := Lib.hid ⟨by unfold maxLen; omega, by omega, Nat.le_refl _⟩
        go_wp2_with (with_reducible refine wpList_pour (o := ⟨some 33, _, _, _, _, _⟩) rfl (.const (.slice none 0 0)) (.tmp 32) 25 rfl w1.heap.size 5 (.int .u8 0) 1 1 Try.underlying25 info_u8 ?hz (by decide) none 0 0 [] ?hs HN0 A xs.length c (u8s xs) ?hx HSL HON HBD ?next)
        all_goals try rfl
        case next =>
          intro A3 c3 w3 ho3 hg3
          have HO3 := Lib.hid ho3.out
          have HW3 := Lib.hid (show Below w1.heap.size w1 w3 from below_own0 hg3.out)
          clear ho3 hg3 HSL HN0 HON HBD
          go_wp2
          go_loopw [11] (fun s11 wr => ∃ i : Nat, s11 = .int .i64 (i : Nat) ∧ i ≤ 8 ∧ (i = 0 ∨ i ≤ ys.length) ∧ wr.ownsRow w1.heap.size 5 1 (.slice A3 xs.length c3) xs.length (u8s (turnF j ys xs i)) ∧ Below w1.heap.size w1 wr) (fun s11 _ => 8 - (intOf s11).toNat)
          case atStart => exact ⟨0, rfl, by omega, .inl rfl, HO3.out, HW3.out⟩
          case round =>
            clear HO3 HW3
            obtain ⟨i, rfl, hi, hiy, ho, hbw⟩ := hrel
            have HO := Lib.hid ho; have HBW := Lib.hid hbw
            clear ho hbw
            by_cases hgo : i < 8 ∧ i < ys.length
            · obtain ⟨hi8, hiy8⟩ := hgo
              have y1 : (i : Int) < 8 := by omega
              have y2 : (i : Int) < (ys.length : Int) := by omega
              by_cases hin2 : 8 * j + i < xs.length
              · obtain ⟨g, rfl, hg⟩ := own_first HO.out (by omega)
                have hT := turn_len j ys xs i
                have hv := getD_lt (turn_8 HB2.out HB.out i (j := j)) (8 * j + i)
                have hu := getD_lt HB2.out i
                have hc0 : wr.cell? ⟨g, 8 * j + i, none⟩ = some (.int .u8 ((turnF j ys xs i).getD (8 * j + i) 0 : Nat)) := by
                  rw [HO.out.cellAt _ (by omega), u8s_at _ (by omega)]
                have hz0 := HO.out.frozenAt (8 * j + i)
                obtain ⟨b2, o2, rfl, f2⟩ := at8_at8 (HAT2.out wr (HB1.out.trans (HBW.out.mono HB1.out.size))) hiy8
                have hx8 := xor8i hv hu
                have hst := HO.out.stored (8 * j + i) (.int .u8 (((turnF j ys xs i).getD (8 * j + i) 0 ^^^ ys.getD i 0 : Nat) : Nat))
                rw [← u8s_set, ← turn_succ] at hst
                have HS := Lib.hid hst
                generalize (turnF j ys xs i).getD (8 * j + i) 0 ^^^ ys.getD i 0 = z at *
                generalize (turnF j ys xs i).getD (8 * j + i) 0 = v at *
                generalize ys.getD i 0 = u at *
                obtain ⟨q, hq⟩ : ∃ q, 8 * j + i = q := ⟨_, rfl⟩
                rw [hq] at hc0 hz0 HS hin2
                have HQ := Lib.hid hq
                have z1 : IntKind.i64.wrap (8 * (j : Int)) = 8 * (j : Int) := IntWalk.i64_in _ (by omega)
                have z2 : IntKind.i64.wrap (8 * (j : Int) + (i : Int)) = (q : Int) := by rw [← hq, IntWalk.i64_in _ (by omega)]; omega
                have z3 : (q : Int) < (xs.length : Int) := by omega
                have z4 : (0 : Int) ≤ (q : Int) := by omega
                have z5 : (0 : Int) ≤ (i : Int) := by omega
                have hgb : Below w1.heap.size w1 (wr.drew.setCell ⟨g, q, none⟩ (.int .u8 (z : Nat))) := (below_draws HBW.out 1).setCell (p := ⟨g, q, none⟩) hg _
                have HGB := Lib.hid hgb
                clear hst hT hq hgb hv hu
                go_wp2_with fail
                go_still_tail 18, (by kernel_rfl)
                change wpList _ _ _ _ _ wr.drew
                go_wp2_with fail
                go_roundw
                case rel => exact ⟨i + 1, by go_num, by omega, .inr (by omega), HS.out.1, HGB.out⟩
                case measure => simp [intOf]; omega
              · have z1 : IntKind.i64.wrap (8 * (j : Int)) = 8 * (j : Int) := IntWalk.i64_in _ (by omega)
                have z2 : ¬ 8 * (j : Int) + (i : Int) < (xs.length : Int) := by omega
                have HTO := Lib.hid (turn_over (j := j) (ys := ys) (xs := xs) (i := i) (by omega))
                go_wp2
                go_roundw
                case rel => exact ⟨i + 1, by go_num, by omega, .inr (by omega), by rw [HTO.out]; exact HO.out, HBW.out⟩
                case measure => simp [intOf]; omega
            · have y3 : ¬ (i : Int) < 8 ∨ ¬ (i : Int) < (ys.length : Int) := by omega
              obtain ⟨T, hT⟩ : ∃ T, turnF j ys xs i = T := ⟨_, rfl⟩
              have hTl : T.length = xs.length := by rw [← hT, turn_len]
              have hT8 : bytes8 T := by rw [← hT]; exact turn_8 HB2.out HB.out i
              have hmt := mac_turned HK.out HB.out hT8 hTl (by omega) j (fun p hp => by rw [← hT]; exact turn_else i hi p hp)
              have ho := HO.out
              rw [hT, ← hTl] at ho
              have hwr := HB1.out.trans (HBW.out.mono HB1.out.size)
              have hTA := fun W (hW : Below wr.heap.size wr W) => at8_low8 (at8_own ho) hW
              have HT1 := Lib.hid (fun W (hW : Below wr.heap.size wr W) => (omc_mac k HK.out A3 c3 T W (hTA W hW) hT8 (by omega)).mono fun e w' h => And.intro h.1 (hW.trans (h.2.mono hW.size)))
              have HX1 := Lib.hid (fun W (hW : Below wr.heap.size wr W) => (omc_mac k HK.out A c xs W (HAT.out W (hwr.trans (hW.mono hwr.size))) HB.out (by omega)).mono fun e w' h => And.intro h.1 (hW.trans (h.2.mono hW.size)))
              have HKC := Lib.hid (fun W (hW : Below wr.heap.size wr W) => HK1.out W (HBW.out.trans (hW.mono HBW.out.size)))
              have HC1 := Lib.hid (fun W (hW : Below wr.heap.size wr W) => conv8 A3 c3 T W (hTA W hW))
              have HC2 := Lib.hid (fun W (hW : Below wr.heap.size wr W) => conv8 A c xs W (HAT.out W (hwr.trans (hW.mono hwr.size))))
              have HWR := Lib.hid hwr
              obtain ⟨E, hE⟩ : ∃ E, decide (T = xs) = E := ⟨_, rfl⟩
              have hs1 : ((str8 T).toList == (str8 xs).toList) = E := by rw [str8_beq hT8 HB.out, hE]
              have hm1 : (((macF k T : Nat) : Int) == ((macF k xs : Nat) : Int)) = E := by
                rw [← hE]
                by_cases h : T = xs
                · rw [h, decide_eq_true rfl]; simp
                · rw [decide_eq_false h, beq_eq_false_iff_ne]; exact fun e => h (hmt.1 (by omega))
              have hbd : Below wr.heap.size wr wr.drew := below_draws (Below.refl _ _) 1
              rw [hTl] at HT1 HC1
              unfold keyV keyA at *
              generalize macF k T = m1 at *
              generalize macF k xs = m2 at *
              generalize str8 T = S1 at *
              generalize str8 xs = S2 at *
              clear hmt ho hTA hwr hT hT8 hTl hE HO HBW HAT HAT2 HB HB2 HK HK1 hgo
              go_wp2_with fail
              all_goals
                go_region_held3 (fun W => W.cell? ⟨w.heap.size, 0, none⟩ = some (.int .u32 (k.a : Nat)) ∧ W.cell? ⟨w.heap.size, 1, none⟩ = some (.int .u32 (k.b : Nat)) ∧ W.cell? ⟨w.heap.size, 2, none⟩ = some (.int .u32 (k.c : Nat)) ∧ W.cell? ⟨w.heap.size, 3, none⟩ = some (.int .u32 (k.d : Nat)) ∧ (convert 25 9 (.slice A3 xs.length c3)).run Try.prog W = .ok (.string S1) W ∧ (convert 25 9 (.slice A xs.length c)).run Try.prog W = .ok (.string S2) W) (first | (have h9 := HKC.out _ (by assumption); exact ⟨h9.1, h9.2.1, h9.2.2.1, h9.2.2.2, HC1.out _ (by assumption), HC2.out _ (by assumption)⟩) | go_keep) (first
                  | (go_at_call 9; with_reducible refine (HT1.out _ (by assumption)).mono ?_; rintro e v0 ⟨rfl, hc0⟩)
                  | (go_at_call 9; with_reducible refine (HX1.out _ (by assumption)).mono ?_; rintro e v1 ⟨rfl, hc1⟩))
              all_goals
                have HBF := Lib.hid (HWR.out.trans (hc1.mono HWR.out.size))
                go_wp2
                go_ret
                exact ⟨by simp, HBF.out⟩
      · have x3 : (xs.length : Int) / 8 < (j : Int) := by omega
        clear HAT HAT2 HNO HK HB HB2 HK1
        go_wp2
        go_ret
        exact ⟨rfl, HB1.out⟩
    · have x2 : blk < 0 := by omega
      clear HAT HAT2 HNO HK HB HB2 HK1
      go_wp2
      go_ret
      exact ⟨rfl, HB1.out⟩
  · have x1 : (2000 : Int) < (xs.length : Int) := by omega
    clear HAT HAT2 HNO HK HB HB2 HK1
    go_wp2
    go_ret
    exact ⟨rfl, HB1.out⟩
end Go.Proofs.Ytnclfaphpgcplaa
