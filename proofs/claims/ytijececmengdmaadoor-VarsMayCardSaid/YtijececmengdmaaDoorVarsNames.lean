/-
  The contracts of vars.names, vars.Name and vars.Find, for every number and every text.
-/
import Derived.Test.YtijececmengdmaaDoorVars
import Derived.Great.Walk
import Derived.Great.BuildSlice
namespace Go.Proofs.YtijececmengdmaaDoor
open Go.RowKit

def nameCells : Array Value := (vrows.map fun r => Value.string r.name).toArray
def noNames : Array Value := (List.replicate 96 (Value.string ByteArray.empty)).toArray

theorem zero_names (w : World) : (zeroValue 34).run Tryd.prog w = .ok (.agg noNames) w := by kernel_rfl

set_option maxHeartbeats 1000000 in
set_option maxRecDepth 100000 in
theorem names_any (w : World) :
    Calls Tryd.prog 25 #[] w fun e w' => e = .returned (.agg nameCells) ∧ Below w.heap.size w w' := by
  go_enter Tryd.func25, Tryd.ntmps25
  go_wp2_with (first
    | (with_reducible refine Great.wpList_runTo (o := ⟨some 0, _, _, _, _, _⟩) rfl (some 0) rfl (.pointer (some ⟨w.heap.size, 0, none⟩)) (w.alloc (.cells noNames 34)) (by kernel_rfl) ?_)
    | (with_reducible refine wpList_buildTo (o := ⟨some 1, _, _, _, _, _⟩) rfl 34 _ rfl (some 1) rfl nameCells (by kernel_rfl) ?_)
    | (with_reducible refine wpList_store_rowTo (o := ⟨none, _, _, _, _, _⟩) rfl 34 _ _ rfl rfl w.heap.size nameCells rfl rfl 34 noNames (heap_alloc_new w _) (by kernel_rfl) (by kernel_rfl) (by kernel_rfl) ?_))
  have hg : ((w.alloc (.cells noNames 34)).setRow w.heap.size nameCells).heap[w.heap.size]? = some (.cells nameCells 34 (0, 0)) := setRow_heap _ _ noNames _ _ _ (heap_alloc_new w _)
  refine bodyPost_ret (results_cell_row rfl _ _ w.heap.size 34 nameCells (0, 0) _ rfl hg Tryd.underlying34 rfl (by kernel_rfl)) rfl ?_
  exact ⟨rfl, below_row ((Below.refl _ _).alloc (Nat.le_refl _) _) (Nat.le_refl _) _⟩

theorem nameCells_size : nameCells.size = 96 := by kernel_rfl
theorem nameCells_at (i : Nat) (h : i < 96) : nameCells[i]? = some (.string (vrows.getD i vnone).name) := by
  have hl := vrows_length
  simp only [nameCells, List.getElem?_toArray, List.getElem?_map]
  rw [List.getElem?_eq_getElem (by omega)]
  simp [List.getD_eq_getElem?_getD, List.getElem?_eq_getElem (show i < vrows.length by omega)]

/-- One of 96 strings. -/
theorem index_names (cs : Array Value) (v : Int) (u : Value) (w : World) (h0 : 0 ≤ v) (h1 : v < 96) (hc : cs[v.toNat]? = some u) :
    (Instr.index 34 (.agg cs) (.int .i64 v)).run Tryd.prog w = .ok u w := by
  have hagg : (isAgg 9).run Tryd.prog w = .ok false w := by kernel_rfl
  have hsz : (sizeOf 9).run Tryd.prog w = .ok 1 w := by kernel_rfl
  simp [Instr.index, run_underlying Tryd.underlying34, asIntOf, h0, h1, go_sem, part, hagg, hsz, hc]

set_option maxHeartbeats 1000000 in
theorem name_any (v : Int) (w : World) :
    Calls Tryd.prog 15 #[.int .i64 v] w fun e w' => e = .returned (.string (nameOf v)) ∧ Below w.heap.size w w' := by
  by_cases h : 0 ≤ v ∧ v < 96
  · have hc := nameCells_at v.toNat (by omega)
    have hs := nameCells_size
    have hn := names_any w
    rw [nameOf, vrow_in h]
    generalize (vrows.getD v.toNat vnone).name = S at *
    generalize nameCells = NC at *
    obtain ⟨h0, h1⟩ := h
    have HN := Lib.hid hn; clear hn
    go_enter Tryd.func15, Tryd.ntmps15
    go_wp2_with fail
    refine (exists_yes v h0 h1 w).mono ?_
    rintro e w' ⟨rfl, rfl⟩
    go_wp2_with fail
    refine HN.out.mono ?_
    rintro e w' ⟨rfl, hb⟩
    have HB := Lib.hid hb; clear hb
    have hi := index_names NC v _ w' h0 h1 hc
    go_wp2
    go_ret
    exact ⟨rfl, HB.out⟩
  · rw [nameOf, vrow_out h]
    have H := Lib.hid h; clear h
    go_enter Tryd.func15, Tryd.ntmps15
    go_wp2_with fail
    refine (exists_no v H.out w).mono ?_
    rintro e w' ⟨rfl, rfl⟩
    go_wp2
    go_ret
    exact ⟨rfl, Below.refl _ _⟩

set_option maxHeartbeats 1000000 in
theorem find_any (s : ByteArray) (w : World) :
    Calls Tryd.prog 19 #[.string s] w fun e w' => e = .returned (.int .i64 (findOf s)) ∧ Below w.heap.size w w' := by
  have hc := nameCells_at
  have hn := names_any w
  generalize nameCells = NC at *
  have HC := Lib.hid hc; have HN := Lib.hid hn; clear hn hc
  go_enter Tryd.func19, Tryd.ntmps19
  go_wp2_with fail
  refine HN.out.mono ?_
  rintro e w' ⟨rfl, hb⟩
  have HB := Lib.hid hb; clear hb
  go_wp2_with fail
  go_loop [6] (fun i => ∃ k : Nat, k ≤ 96 ∧ i = .int .i64 k ∧ findOf s = findFrom s (vrows.drop k) k) (fun i => 96 - (intOf i).toNat)
  case atStart => exact ⟨0, by omega, rfl, rfl⟩
  case round =>
    obtain ⟨k, hk, rfl, hf⟩ := hrel
    by_cases hlt : k < 96
    · have hd : vrows.drop k = vrows.getD k vnone :: vrows.drop (k + 1) := by
        have hl := vrows_length
        rw [List.drop_eq_getElem_cons (by omega)]
        simp [List.getD_eq_getElem?_getD, List.getElem?_eq_getElem (show k < vrows.length by omega)]
      have hi := index_names NC k _ w' (by omega) (by omega) (by rw [Int.toNat_natCast]; exact HC.out k hlt)
      rw [hd, findFrom] at hf
      clear hd
      generalize (vrows.getD k vnone).name = S at *
      have HF := Lib.hid hf; clear hf
      by_cases hs : S = s
      · have hs1 : (S.toList == s.toList) = true := by rw [bytes_beq]; simp [hs]
        go_wp2
        go_ret
        have := HF.out
        rw [if_pos hs] at this
        rw [this]
        exact ⟨rfl, HB.out⟩
      · have hs1 : (S.toList == s.toList) = false := by rw [bytes_beq]; simp [hs]
        go_wp2
        go_round
        case rel => exact ⟨k + 1, by omega, by go_num, by have := HF.out; rw [if_neg hs] at this; exact this⟩
        case measure => simp [intOf]; omega
    · have hf2 : findOf s = -1 := by rw [hf, List.drop_eq_nil_of_le (by rw [vrows_length]; omega), findFrom]
      have HF := Lib.hid hf2; clear hf hf2
      go_wp2
      go_ret
      rw [HF.out]
      exact ⟨rfl, HB.out⟩
end Go.Proofs.YtijececmengdmaaDoor
