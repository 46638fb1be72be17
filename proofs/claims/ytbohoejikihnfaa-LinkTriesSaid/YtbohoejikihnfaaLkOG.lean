/-
  package link as landed: slices.Insert of one wait at any place; slices.Delete of one wait.
-/
import Derived.Test.YtbohoejikihnfaaLkOF

namespace Go.Proofs.Ytbohoejikihnfaa

open Go.RowKit

open Go.Great

theorem oins_any (base : Nat) (A : Option Addr) (n c i g vc : Nat) (xs news : List Value) (w : World) (ho : w.ownsRow base 48 4 (.slice A n c) n xs) (hi : i ≤ n) (hn : n ≤ 100000) (hbase : base ≤ w.heap.size)
    (hv : Has w g 48 news.toArray) (hl : news.length = 4) (h1 : ∀ u ∈ news, u.oneCell' = true) (h1x : ∀ u ∈ xs, u.oneCell' = true) (hne : Value.ownBlock (.slice A n c) ≠ some g) :
    Calls Try.prog 30 #[.slice A n c, .int .i64 i, .slice (some ⟨g, 0, none⟩) 1 vc] w fun e w' => ∃ A' c', e = .returned (.slice A' (n + 1) c') ∧ Hid (w'.ownsRow base 48 4 (.slice A' (n + 1) c') (n + 1) (xs.take (i * 4) ++ news ++ xs.drop (i * 4))) ∧ Hid (w.grownBy w' (Value.ownBlock (.slice A n c))) := by
  have hxl := ho.1
  rcases Nat.lt_or_ge i n with h | h
  · cases A with
    | none =>
      have h0 : n = 0 := by
        rcases ho.2 with ⟨_, h0⟩ | ⟨_, _, _, h', _⟩
        · exact h0
        · injection h' with h1; cases h1
      omega
    | some ad =>
      obtain ⟨b, cur, rfl, _, _, hnc, _⟩ := own_has12 ho
      rcases Nat.lt_or_ge n c with h2 | h2
      · refine (oins_shift base b n c i g vc xs news w ho h h2 hn hv hl h1 h1x (fun e => hne (by rw [e]; rfl))).mono ?_
        rintro e w' ⟨rfl, h3, h4⟩
        exact ⟨_, _, rfl, h3, h4⟩
      · obtain rfl : c = n := by omega
        exact oins_grow base b c i g vc xs news w ho h hn hbase hv hl h1 h1x
  · obtain rfl : i = n := by omega
    refine (oins_end base A i c g vc xs news w ho hn hbase hv hl h1).mono ?_
    rintro e w' ⟨A', c', rfl, h3, h4⟩
    refine ⟨A', c', rfl, ?_, h4⟩
    rw [List.take_of_length_le (by rw [hxl]; exact Nat.le_refl _), List.drop_eq_nil_of_le (by rw [hxl]; exact Nat.le_refl _), List.append_nil]
    exact h3

/-- append, its run known by an equation, as one step of a region that draws. -/
theorem step_append_run12 {P : Program} {ops : Array Oper} {o : Oper} {a : Act} {w : World} {K : Act → World → Prop} {Q : Exit → Act → World → Prop} {E : Prop}
    (hg : o.guard = none) (d x : Operand) (dT sT : TypeId) (hop : o.op = Op.call { callee := Callee.builtin Builtin.append, args := #[d, x], argTypes := #[dT, sT] })
    (v u : Value) (hd : a.eval d = v) (hx : a.eval x = u) {v' : Value} {w' : World} (hr : (Builtin.append_ #[dT, sT] o.type #[v, u]).run P w = .ok v' w') (hK : K (a.put o.dst v') w') :
    if Region.wanted o (yielded ops a.tmps) = true then Oper.wp P o a w K Q else E := by
  have hw : Region.wanted o (yielded ops a.tmps) = true := by simp [Region.wanted, hg]
  rw [if_pos hw]
  unfold Oper.wp
  simp [execOp, hop, resolve, invoke, builtin, hd, hx, hr, Result.andThen]
  exact hK

theorem zero_wait12 : ∀ w, (zeroValue 48).run Try.prog w = .ok (.agg #[.int .i64 0, .int .i64 0, .int .i64 0, .slice none 0 0]) w := fun w => by
  obtain ⟨i, hi, hz, _, _⟩ := info_parts (P := Try.prog) info_wait
  simp [zeroValue, typeInfo, hi, hz]

set_option maxRecDepth 100000 in
set_option maxHeartbeats 4000000 in
theorem odel_any (base b n c i : Nat) (xs : List Value) (w : World) (ho : w.ownsRow base 48 4 (.slice (some ⟨b, 0, none⟩) n c) n xs) (hi : i < n) (hn : n ≤ 100000) (h1x : ∀ u ∈ xs, u.oneCell' = true) :
    Calls Try.prog 34 #[.slice (some ⟨b, 0, none⟩) n c, .int .i64 i, .int .i64 ((i + 1 : Nat) : Int)] w fun e w' => e = .returned (.slice (some ⟨b, 0, none⟩) (n - 1) c) ∧ Hid (w'.ownsRow base 48 4 (.slice (some ⟨b, 0, none⟩) (n - 1) c) (n - 1) (xs.take (i * 4) ++ xs.drop ((i + 1) * 4))) ∧ Hid (w.grownBy w' (some b)) := by
  have hxl := ho.1
  obtain ⟨b', cur, hb', hbase, hcur, hnc, hcm, hcs, hx⟩ := own_has12 ho
  injection hb' with hb' _ _
  subst hb'
  obtain ⟨i0, hi0, hz0, hzs, hzb⟩ := info_parts (P := Try.prog) info_wait
  have hcl : cur.toList.length = c * 4 := by rw [Array.length_toList, hcs]
  obtain ⟨m, hm⟩ : ∃ m, n - (i + 1) = m := ⟨_, rfl⟩
  have hnm : n = i + 1 + m := by omega
  have hnl : ((cur.toList.drop (i * 4 + 4)).take (m * 4)).length = m * 4 := by simp; omega
  have h1n : ∀ u ∈ (cur.toList.drop (i * 4 + 4)).take (m * 4), u.oneCell' = true := fun u hu => by
    refine h1x u ?_
    rw [← hx]
    rw [show m * 4 = n * 4 - (i * 4 + 4) by omega, ← List.drop_take] at hu
    exact List.mem_of_mem_drop hu
  obtain ⟨W1, hW1⟩ : ∃ W1, W1 = w.drew.setRow b (spl12 cur.toList (i * 4) ((cur.toList.drop (i * 4 + 4)).take (m * 4))).toArray := ⟨_, rfl⟩
  have hap : ∀ ty dc AD, (AD = ⟨b, (i + 1) * 4, none⟩ ∨ m = 0) → (Builtin.append_ #[22, 22] ty #[.slice (some ⟨b, 0, none⟩) i c, .slice (some AD) m dc]).run Try.prog w.drew = .ok (.slice (some ⟨b, 0, none⟩) (i + m) c) W1 := fun ty dc AD hAD => by
    have h := run_append_room (P := Try.prog) w.drew 22 ty 48 i0 Try.underlying22 hi0 b i c cur hcur AD m dc ((cur.toList.drop (i * 4 + 4)).take (m * 4)) (by rw [hzs]; exact hnl) (fun j u hj => by
      rcases hAD with rfl | h0
      · rw [Addr.add_lit, hcur.draw.cell, ← Array.getElem?_toList]
        rw [List.getElem?_take] at hj
        split at hj
        · rw [List.getElem?_drop] at hj
          rw [show (i + 1) * 4 + j = i * 4 + 4 + j by omega]
          exact hj
        · cases hj
      · subst h0
        simp at hj) h1n (by omega) (by rw [hzs, hnl, hcs]; omega)
    rw [h, hzs, hW1]
    rfl
  have hr1 : Has W1 b 48 (spl12 cur.toList (i * 4) ((cur.toList.drop (i * 4 + 4)).take (m * 4))).toArray := by rw [hW1]; exact has_row11 hcur.draw _
  have hg1 : w.grownBy W1 (some b) := by rw [hW1]; exact only_trans (only_draw (only_refl w _)) (only_row11 w.drew b _)
  have hsl : (spl12 cur.toList (i * 4) ((cur.toList.drop (i * 4 + 4)).take (m * 4))).length = c * 4 := by rw [spl12_len _ _ _ (by rw [hnl, hcl]; omega), hcl]
  have hfin := fun Z hZ => del_list12 cur.toList Z (i * 4) 4 (m * 4) (by rw [hcl]; omega) hZ
  rw [show i * 4 + m * 4 = (i + m) * 4 by omega, show i * 4 + 4 + m * 4 = n * 4 by omega, hx, show i * 4 + 4 = (i + 1) * 4 by omega] at hfin
  have hxt : cur.toList.take (i * 4) = xs.take (i * 4) := by rw [← hx, List.take_take, Nat.min_eq_left (by omega)]
  rw [hxt] at hfin
  rw [show i * 4 + 4 = (i + 1) * 4 by omega] at hr1 hsl
  generalize spl12 cur.toList (i * 4) ((cur.toList.drop ((i + 1) * 4)).take (m * 4)) = X1 at *
  obtain ⟨W2, hW2⟩ : ∃ W2, W2 = W1.setRow b (spl12 X1 ((i + m) * 4) (Builtin.zeroCells (Value.agg #[.int .i64 0, .int .i64 0, .int .i64 0, .slice none 0 0]).cells 1).toList).toArray := ⟨_, rfl⟩
  have hZ : (Builtin.zeroCells (Value.agg #[.int .i64 0, .int .i64 0, .int .i64 0, .slice none 0 0]).cells 1).toList.length = 4 := by simp [Builtin.zeroCells, Value.cells]
  have hsz : X1.toArray.size = c * 4 := by rw [List.size_toArray]; exact hsl
  have h8 : (i + m) * 4 + 1 * (Value.agg #[.int .i64 0, .int .i64 0, .int .i64 0, .slice none 0 0]).cells.size ≤ X1.toArray.size := by
    rw [hsz]
    show (i + m) * 4 + 1 * 4 ≤ c * 4
    omega
  have hcl2 : ∀ ty dc, (Builtin.clear_ #[22] ty #[.slice (some ⟨b, (i + m) * 4, none⟩) 1 dc]).run Try.prog W1 = .ok (.tuple #[]) W2 := fun ty dc => by
    rw [hW2]
    exact run_clear_row12 W1 22 48 ty _ Try.underlying22 zero_wait12 (by intro v hv; simp [Value.cells] at hv; rcases hv with rfl | rfl | rfl | rfl <;> rfl) b ((i + m) * 4) 1 dc X1.toArray hr1 h8 (by omega)
  have HO2 : Hid (W2.ownsRow base 48 4 (.slice (some ⟨b, 0, none⟩) (i + m) c) (i + m) (xs.take (i * 4) ++ xs.drop ((i + 1) * 4))) := Lib.hid (by
    refine has_own12 (cur := (spl12 X1 ((i + m) * 4) (Builtin.zeroCells (Value.agg #[.int .i64 0, .int .i64 0, .int .i64 0, .slice none 0 0]).cells 1).toList).toArray) hbase (by rw [hW2]; exact has_row11 hr1 _) (by omega) hcm (by rw [List.size_toArray, spl12_len _ _ _ (by rw [hsl, hZ]; omega), hsl]) ?_
    exact hfin _ hZ)
  have HG2 : Hid (w.grownBy W2 (some b)) := Lib.hid (by rw [hW2]; exact only_trans hg1 (only_row11 _ _ _))
  have hcm' : c ≤ 9223372036854775807 := by unfold maxLen at hcm; omega
  obtain ⟨k, rfl⟩ : ∃ k, n = k + 1 := ⟨n - 1, by omega⟩
  have hik : i ≤ k := by omega
  obtain rfl : m = k - i := by omega
  rw [show i + (k - i) = k by omega] at HO2 hcl2 hap
  rw [show k + 1 - 1 = k by omega]
  have hap1 := fun ty dc => hap ty dc ⟨b, (i + 1) * 4, none⟩ (.inl rfl)
  have hap2 := fun h ty dc => hap ty dc ⟨b, 0, none⟩ (.inr h)
  clear hap ho hx hcur hcm hfin hxt hsl hg1 hr1 hW1 hW2 hnl h1n hcl h1x hcs hxl hi0 hz0 hzs hzb hZ hbase h8 hsz hm hnm hi
  have hw0 : ¬ ((i : Int) = (i : Int) + 1) := by omega
  have hw1 : (0 : Int) ≤ i := by omega
  have hw4 : (0 : Int) ≤ (i : Int) + 1 := by omega
  have hw2 : (i : Int) ≤ (i : Int) + 1 := by omega
  have hw3 : (i : Int) ≤ k := by omega
  have hck : ¬ (c = k) := by omega
  have hkc : k ≤ c := by omega
  have hic : i ≤ c := by omega
  have hic1 : i + 1 ≤ c := by omega
  have hick : (i : Int) ≤ c := by omega
  by_cases hc1 : c = i + 1
  · obtain rfl : k = i := by omega
    subst hc1
    have hap := hap2 (by omega)
    rw [Nat.sub_self] at hap
    clear hap1 hap2
    go_enter Try.func34, Try.ntmps34
    go_wp2_with fail
    go_region_law (refine step_append_run12 rfl (.tmp 22) (.tmp 25) 22 22 rfl (.slice (some ⟨b, 0, none⟩) k (k + 1)) (.slice (some ⟨b, 0, none⟩) 0 0) rfl rfl (hap _ _) ?_)
    go_wp2
    go_ret
    exact ⟨rfl, HO2, HG2⟩
  · have hap := hap1
    clear hap1 hap2
    go_enter Try.func34, Try.ntmps34
    go_wp2_with fail
    go_region_law (refine step_append_run12 rfl (.tmp 22) (.tmp 25) 22 22 rfl (.slice (some ⟨b, 0, none⟩) i c) (.slice (some ⟨b, (i + 1) * 4, none⟩) (k - i) (c - (i + 1))) rfl rfl (hap _ _) ?_)
    go_wp2
    go_ret
    exact ⟨rfl, HO2, HG2⟩
end Go.Proofs.Ytbohoejikihnfaa
