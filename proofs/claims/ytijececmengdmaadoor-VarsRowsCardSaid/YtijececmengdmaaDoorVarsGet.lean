/-
  linesideref02.Get: a variable's row, or none.
-/
import Derived.Test.YtijececmengdmaaDoorVarsRef
import Derived.Laws.ResultCell
namespace Go.Proofs.YtijececmengdmaaDoor
open Go.RowKit

theorem flat_at {l : List VRow} : ∀ (i : Nat) (r : VRow), l[i]? = some r → ∀ (j : Nat) (u : Value), (rowOf r)[j]? = some u → (l.flatMap rowOf)[i * 4 + j]? = some u := by
  induction l with
  | nil => intro i r h; simp at h
  | cons x l ih =>
    intro i r h j u hj
    have hx : (rowOf x).length = 4 := rfl
    have hj4 : j < 4 := by
      have := (List.getElem?_eq_some_iff.1 hj).1
      exact this
    rw [List.flatMap_cons]
    cases i with
    | zero =>
      simp only [List.getElem?_cons_zero, Option.some.injEq] at h
      subst h
      rw [List.getElem?_append_left (by omega), Nat.zero_mul, Nat.zero_add]
      exact hj
    | succ i =>
      rw [List.getElem?_append_right (by omega), hx, show (i + 1) * 4 + j - 4 = i * 4 + j by omega]
      exact ih i r (by simpa using h) j u hj
theorem rowCells_at (i : Nat) (hi : i < 96) (j : Nat) (u : Value) (hj : (rowOf (vrows.getD i vnone))[j]? = some u) : rowCells[i * 4 + j]? = some u := by
  have hl := vrows_length
  simp only [rowCells, List.getElem?_toArray]
  refine flat_at i _ ?_ j u hj
  rw [List.getElem?_eq_getElem (by omega)]
  simp [List.getD_eq_getElem?_getD, List.getElem?_eq_getElem (show i < vrows.length by omega)]

theorem results_row_tmp {P : Program} {fn : Func} {p u : Tmp} {ty : TypeId} (h : fn.results = #[.cell p ty, .tmp u]) (tmps : Array Value) (w : World) (g : Nat) (t : TypeId) (cs : Array Value) (d : TypeDesc)
    (hp : tmps.getD p undef = .pointer (some ⟨g, 0, none⟩)) (hg : w.heap[g]? = some (.cells cs t (0, 0)))
    (hu : P.underlying ty = some d) (hd : (match d with | .struct _ | .array _ _ => true | _ => false) = true) (hi : (P.info? ty).map (·.size) = some cs.size) :
    (results fn tmps).run P w = .ok (.tuple #[.agg cs, tmps.getD u undef]) w := by
  rw [results_cell_tmp h, hp]
  simp [asAddr, run_loadVar_row w g t ty cs (0, 0) d hg hu hd hi]

set_option maxHeartbeats 1000000 in
theorem get_any (v : Int) (w : World) :
    Calls Tryd.prog 22 #[.int .i64 v] w fun e w' => e = .returned (.tuple #[.agg (rowOf (vrow v)).toArray, .bool (decide (0 ≤ v ∧ v < 96))]) ∧ Below w.heap.size w w' := by
  have ht := fun w => table_any w
  have HT := Lib.hid ht; clear ht
  by_cases h : 0 ≤ v ∧ v < 96
  · have hr := rowCells_at v.toNat (by omega)
    rw [decide_eq_true h, vrow_in h]
    generalize vrows.getD v.toNat vnone = R at *
    generalize rowCells = C at *
    obtain ⟨h0, h1⟩ := h
    have HR := Lib.hid hr; clear hr
    go_enter Tryd.func22, Tryd.ntmps22
    go_wp2_with fail
    refine (HT.out _).mono ?_
    rintro e w' ⟨g, rfl, hg, hh, hb⟩
    have hz : w'.heap[w.heap.size]? = some (.cells #[.string ByteArray.empty, .int .i64 0, .int .i64 0, .int .i64 0] 31 (0, 0)) := (Has.made w 31 _).under hb (by simp)
    have HZ := Lib.hid hz
    have HB := Lib.hid (((Below.refl w.heap.size w).alloc (Nat.le_refl _) _).trans (hb.mono (by simp)))
    have hne : w.heap.size ≠ g := by simp at hg; omega
    have c0 : w'.cell? ⟨g, v.toNat * 4, none⟩ = some (.string R.name) := by rw [hh.cell]; exact HR.out 0 _ rfl
    have c1 : w'.cell? ⟨g, v.toNat * 4 + 1, none⟩ = some (.int .i64 ((R.width : Nat) : Int)) := by rw [hh.cell]; exact HR.out 1 _ rfl
    have c2 : w'.cell? ⟨g, v.toNat * 4 + 2, none⟩ = some (.int .i64 R.most) := by rw [hh.cell]; exact HR.out 2 _ rfl
    have c3 : w'.cell? ⟨g, v.toNat * 4 + 3, none⟩ = some (.int .i64 R.special) := by rw [hh.cell]; exact HR.out 3 _ rfl
    clear hz hb hh hg
    go_wp2_with (with_reducible refine wpList_store_rowTo (o := ⟨none, _, _, _, _, _⟩) rfl 31 _ _ rfl rfl w.heap.size #[.string R.name, .int .i64 ((R.width : Nat) : Int), .int .i64 R.most, .int .i64 R.special] rfl rfl 31 _ HZ.out (by kernel_rfl) (by kernel_rfl) (by kernel_rfl) ?_)
    refine bodyPost_ret (results_row_tmp rfl _ _ w.heap.size 31 #[.string R.name, .int .i64 ((R.width : Nat) : Int), .int .i64 R.most, .int .i64 R.special] _ rfl (setRow_heap _ _ _ _ _ _ HZ.out) Tryd.underlying31 rfl (by kernel_rfl)) rfl ?_
    exact ⟨rfl, below_row HB.out (Nat.le_refl _) _⟩
  · rw [decide_eq_false h, vrow_out h]
    have H := Lib.hid h; clear h
    go_enter Tryd.func22, Tryd.ntmps22
    go_wp2_with fail
    refine (HT.out _).mono ?_
    rintro e w' ⟨g, rfl, hg, hh, hb⟩
    have hz : w'.heap[w.heap.size]? = some (.cells #[.string ByteArray.empty, .int .i64 0, .int .i64 0, .int .i64 0] 31 (0, 0)) := (Has.made w 31 _).under hb (by simp)
    have HZ := Lib.hid hz
    have HB := Lib.hid (((Below.refl w.heap.size w).alloc (Nat.le_refl _) _).trans (hb.mono (by simp)))
    clear hz hb hh hg
    obtain h1 | h1 : v < 0 ∨ (¬ v < 0 ∧ 96 ≤ v) := by have := H.out; omega
    · go_wp2_with (with_reducible refine wpList_store_rowTo (o := ⟨none, _, _, _, _, _⟩) rfl 31 _ _ rfl rfl w.heap.size #[.string ByteArray.empty, .int .i64 0, .int .i64 0, .int .i64 0] rfl rfl 31 _ HZ.out (by kernel_rfl) (by kernel_rfl) (by kernel_rfl) ?_)
      refine bodyPost_ret (results_row_tmp rfl _ _ w.heap.size 31 #[.string ByteArray.empty, .int .i64 0, .int .i64 0, .int .i64 0] _ rfl (setRow_heap _ _ _ _ _ _ HZ.out) Tryd.underlying31 rfl (by kernel_rfl)) rfl ?_
      exact ⟨rfl, below_row HB.out (Nat.le_refl _) _⟩
    · obtain ⟨h1, h2⟩ := h1
      go_wp2_with (with_reducible refine wpList_store_rowTo (o := ⟨none, _, _, _, _, _⟩) rfl 31 _ _ rfl rfl w.heap.size #[.string ByteArray.empty, .int .i64 0, .int .i64 0, .int .i64 0] rfl rfl 31 _ HZ.out (by kernel_rfl) (by kernel_rfl) (by kernel_rfl) ?_)
      refine bodyPost_ret (results_row_tmp rfl _ _ w.heap.size 31 #[.string ByteArray.empty, .int .i64 0, .int .i64 0, .int .i64 0] _ rfl (setRow_heap _ _ _ _ _ _ HZ.out) Tryd.underlying31 rfl (by kernel_rfl)) rfl ?_
      exact ⟨rfl, below_row HB.out (Nat.le_refl _) _⟩
end Go.Proofs.YtijececmengdmaaDoor
