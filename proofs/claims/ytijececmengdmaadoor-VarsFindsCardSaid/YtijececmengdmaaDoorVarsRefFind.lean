/-
  linesideref02.Find: the first variable of that name.
-/
import Derived.Test.YtijececmengdmaaDoorVarsRefFns
namespace Go.Proofs.YtijececmengdmaaDoor
open Go.RowKit

set_option maxHeartbeats 1000000 in
theorem ref_find (s : ByteArray) (w : World) :
    Calls Tryd.prog 20 #[.string s] w fun e w' => e = .returned (.int .i64 (findOf s)) ∧ Below w.heap.size w w' := by
  have hc := fun i h => rowCells_at i h 0 _ rfl
  have ht := table_any w
  generalize rowCells = C at *
  have HC := Lib.hid hc; have HT := Lib.hid ht; clear hc ht
  go_enter Tryd.func20, Tryd.ntmps20
  go_wp2_with fail
  refine HT.out.mono ?_
  rintro e w' ⟨g, rfl, hg, hh, hb⟩
  have HB := Lib.hid hb; have HH := Lib.hid hh; clear hb hh hg
  go_wp2_with fail
  go_loop [4] (fun i => ∃ k : Nat, k ≤ 96 ∧ i = .int .i64 k ∧ findOf s = findFrom s (vrows.drop k) k) (fun i => 96 - (intOf i).toNat)
  case atStart => exact ⟨0, by omega, rfl, rfl⟩
  case round =>
    obtain ⟨k, hk, rfl, hf⟩ := hrel
    by_cases hlt : k < 96
    · have hd : vrows.drop k = vrows.getD k vnone :: vrows.drop (k + 1) := by
        have hl := vrows_length
        rw [List.drop_eq_getElem_cons (by omega)]
        simp [List.getD_eq_getElem?_getD, List.getElem?_eq_getElem (show k < vrows.length by omega)]
      have hi : w'.cell? ⟨g, k * 4, none⟩ = some (.string (vrows.getD k vnone).name) := by rw [HH.out.cell]; exact HC.out k hlt
      rw [hd, findFrom] at hf
      clear hd
      generalize (vrows.getD k vnone).name = S at *
      have HF := Lib.hid hf; clear hf
      by_cases hs : S = s
      · have hs1 : (S.toList == s.toList) = true := by rw [bytes_beq]; simp [hs]
        go_wp2
        go_ret
        have := HF.out
        rw [if_pos hs] at this
        rw [this]
        exact ⟨rfl, HB.out⟩
      · have hs1 : (S.toList == s.toList) = false := by rw [bytes_beq]; simp [hs]
        go_wp2
        go_round
        case rel => exact ⟨k + 1, by omega, by go_num, by have := HF.out; rw [if_neg hs] at this; exact this⟩
        case measure => simp [intOf]; omega
    · have hf2 : findOf s = -1 := by rw [hf, List.drop_eq_nil_of_le (by rw [vrows_length]; omega), findFrom]
      have HF := Lib.hid hf2; clear hf hf2
      go_wp2
      go_ret
      rw [HF.out]
      exact ⟨rfl, HB.out⟩
end Go.Proofs.YtijececmengdmaaDoor
