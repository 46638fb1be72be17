/-
  package link as landed: slices.Insert of one wait into a row of the call's own.
-/
import Derived.Test.YtbohoejikihnfaaLkOB

import Derived.Shelf.Spec.SlicesInsertGrow

namespace Go.Proofs.Ytbohoejikihnfaa

open Go.RowKit

open Go.Great

theorem size_wait12 : ∀ w, (Go.sizeOf 48).run Try.prog w = .ok 4 w := fun w => by
  obtain ⟨i, hi, _, hs, _⟩ := info_parts (P := Try.prog) info_wait
  simp [sizeOf, typeInfo, hi, hs]
theorem size_wait12' : (Try.prog.info? 48).map (·.size) = some 4 := by
  obtain ⟨i, hi, _, hs, _⟩ := info_parts (P := Try.prog) info_wait
  rw [hi]; simp [hs]

set_option maxRecDepth 100000 in
set_option maxHeartbeats 4000000 in
theorem oins_end (base : Nat) (A : Option Addr) (n c g vc : Nat) (xs news : List Value) (w : World) (ho : w.ownsRow base 48 4 (.slice A n c) n xs) (hn : n ≤ 100000) (hbase : base ≤ w.heap.size)
    (hv : Has w g 48 news.toArray) (hl : news.length = 4) (h1 : ∀ u ∈ news, u.oneCell' = true) :
    Calls Try.prog 30 #[.slice A n c, .int .i64 n, .slice (some ⟨g, 0, none⟩) 1 vc] w fun e w' => ∃ A' c', e = .returned (.slice A' (n + 1) c') ∧ Hid (w'.ownsRow base 48 4 (.slice A' (n + 1) c') (n + 1) (xs ++ news)) ∧ Hid (w.grownBy w' (Value.ownBlock (.slice A n c))) := by
  have HO := Lib.hid ho; have HL : Hid (news.length = 1 * 4) := Lib.hid (by omega); have H1 := Lib.hid h1
  have HV : Hid (∀ j u, news[j]? = some u → w.cell? ((⟨g, 0, none⟩ : Addr).add j) = some u) := Lib.hid fun j u hu => by
    rw [WideShapes.add_plain, hv.cell, Nat.zero_add]
    simpa using hu
  have HB : Hid (n + 1 ≤ maxLen ∧ (n + 1) * 48 ≤ 140737488355328 ∧ base ≤ w.heap.size) := Lib.hid ⟨by unfold maxLen; omega, by omega, hbase⟩
  have x0 : (0 : Int) ≤ n := by omega
  obtain ⟨hnc, hcm, hno⟩ : n ≤ c ∧ c ≤ 9223372036854775807 ∧ (A = none → n = 0 ∧ c = 0) := by
    rcases ho.2 with ⟨h', h0⟩ | ⟨_, _, _, h', _, _, hnc, hcm, _⟩
    · injection h' with h1 h2 h3
      exact ⟨by omega, by omega, fun _ => ⟨h0, h3⟩⟩
    · injection h' with h1 h2 h3
      unfold maxLen at hcm
      exact ⟨by omega, by omega, fun e => by rw [e] at h1; cases h1⟩
  clear ho hv hl h1 hbase
  cases A with
  | none =>
    obtain ⟨rfl, rfl⟩ := hno rfl
    clear hno hnc hcm
    go_enter Try.func30, Try.ntmps30
    go_wp2_with (with_reducible refine wpList_push (o := ⟨some 25, _, _, _, _, _⟩) rfl (.tmp 23) (.tmp 24) 22 rfl base 48 (.agg #[.int .i64 0, .int .i64 0, .int .i64 0, .slice none 0 0]) 4 48 Try.underlying22 info_wait ?hz (by decide) none 0 0 xs ?hs HO ⟨g, 0, none⟩ 1 vc news ?hx HL HV H1 HB ?next)
    all_goals try rfl
    case next =>
      intro A4 c4 w4 ho4 hg4
      go_wp2
      go_ret
      exact ⟨A4, c4, rfl, ho4, hg4⟩
  | some ad =>
    clear hno
    obtain ⟨b, cur, rfl, _⟩ := own_has12 HO.out
    by_cases hcn : c = n
    · skip
      go_enter Try.func30, Try.ntmps30
      go_upto_region 2 with fail
      go_wp2_with (with_reducible refine wpList_push (o := ⟨some 25, _, _, _, _, _⟩) rfl (.tmp 23) (.tmp 24) 22 rfl base 48 (.agg #[.int .i64 0, .int .i64 0, .int .i64 0, .slice none 0 0]) 4 48 Try.underlying22 info_wait ?hz2 (by decide) (some ⟨b, 0, none⟩) n c xs ?hs2 HO ⟨g, 0, none⟩ 1 vc news ?hx2 HL HV H1 HB ?next2)
      all_goals try rfl
      case next2 =>
        intro A4 c4 w4 ho4 hg4
        go_wp2
        go_ret
        exact ⟨A4, c4, rfl, ho4, hg4⟩
    · skip
      go_enter Try.func30, Try.ntmps30
      go_upto_region 2 with fail
      go_wp2_with (with_reducible refine wpList_push (o := ⟨some 25, _, _, _, _, _⟩) rfl (.tmp 23) (.tmp 24) 22 rfl base 48 (.agg #[.int .i64 0, .int .i64 0, .int .i64 0, .slice none 0 0]) 4 48 Try.underlying22 info_wait ?hz3 (by decide) (some ⟨b, 0, none⟩) n c xs ?hs3 HO ⟨g, 0, none⟩ 1 vc news ?hx3 HL HV H1 HB ?next3)
      all_goals try rfl
      case next3 =>
        intro A4 c4 w4 ho4 hg4
        go_wp2
        go_ret
        exact ⟨A4, c4, rfl, ho4, hg4⟩

/-- What the run of overlaps is, for a block of its own. -/
theorem run_over12 (w : World) (g b : Nat) (news : List Value) (cur : Array Value) (hne : g ≠ b) (hv : Has w g 48 news.toArray) (hb : Has w b 48 cur) (h0 : 0 < cur.size) (vc o lb cb : Nat) :
    (callFunc 44 #[.slice (some ⟨g, 0, none⟩) 1 vc, .slice (some ⟨b, o, none⟩) lb cb]).run Try.prog w = .ok (.value (.bool false)) w := by
  rw [run_callFunc_extern (e := Extern.SlicesOverlaps.overlaps #[22, 22] #[4]) Try.func44 (by kernel_rfl) (by kernel_rfl) (by kernel_rfl) (by kernel_rfl),
    Lib.run_overlaps_apart w 22 4 48 Try.underlying22 4 size_wait12 ⟨g, 0, none⟩ ⟨b, o, none⟩ 1 vc lb cb hne 48 48 news.toArray.size cur.size (by unfold Has at hv; simp [World.shape?, hv]) (by unfold Has at hb; simp [World.shape?, hb]) (by omega) (hv.thaw 0) (hv.thaw _)]
  rfl

set_option maxRecDepth 100000 in
set_option maxHeartbeats 4000000 in
theorem oins_shift (base b n c i g vc : Nat) (xs news : List Value) (w : World) (ho : w.ownsRow base 48 4 (.slice (some ⟨b, 0, none⟩) n c) n xs) (hi : i < n) (hroom : n + 1 ≤ c) (hn : n ≤ 100000)
    (hv : Has w g 48 news.toArray) (hl : news.length = 4) (h1 : ∀ u ∈ news, u.oneCell' = true) (h1x : ∀ u ∈ xs, u.oneCell' = true) (hne : g ≠ b) :
    Calls Try.prog 30 #[.slice (some ⟨b, 0, none⟩) n c, .int .i64 i, .slice (some ⟨g, 0, none⟩) 1 vc] w fun e w' => e = .returned (.slice (some ⟨b, 0, none⟩) (n + 1) c) ∧ Hid (w'.ownsRow base 48 4 (.slice (some ⟨b, 0, none⟩) (n + 1) c) (n + 1) (xs.take (i * 4) ++ news ++ xs.drop (i * 4))) ∧ Hid (w.grownBy w' (some b)) := by
  obtain ⟨b', cur, hb', hbase, hcur, hnc, hcm, hcs, hx⟩ := own_has12 ho
  injection hb' with hb' _ _
  subst hb'
  have hov : ∀ o lb cb, (callFunc 44 #[.slice (some ⟨g, 0, none⟩) 1 vc, .slice (some ⟨b, o, none⟩) lb cb]).run Try.prog w = .ok (.value (.bool false)) w := fun o lb cb => run_over12 w g b news cur hne hv hcur (by omega) vc o lb cb
  have hz2 : ¬ ((i : Int) = (n : Int)) := by omega
  have hcm' : c ≤ 9223372036854775807 := by unfold maxLen at hcm; omega
  have hw1 : IntKind.i64.wrap ((i : Int) + 1) = (i : Int) + 1 := by rw [IntKind.wrap_i64]; omega
  have hw2 : IntKind.i64.wrap ((n : Int) + 1) = (n : Int) + 1 := by rw [IntKind.wrap_i64]; omega
  have hb1 : (0 : Int) ≤ (i : Int) + 1 := by omega
  have hin : i ≤ n := by omega
  have htn : ((i : Int) + 1).toNat = i + 1 := by omega
  have hb2 : ¬ (c = i + 1) := by omega
  have hb3 : (i : Int) ≤ (n : Int) + 1 := by omega
  have hb4 : ¬ (c = i) := by omega
  have hcl : cur.toList.length = c * 4 := by rw [Array.length_toList, hcs]
  have h1c : ∀ u ∈ (cur.toList.drop (i * 4)).take ((n - i) * 4), u.oneCell' = true := fun u hu => by
    refine h1x u ?_
    rw [← hx]
    rw [show (n - i) * 4 = n * 4 - i * 4 by omega, ← List.drop_take] at hu
    exact List.mem_of_mem_drop hu
  have hlen1 : ((cur.toList.drop (i * 4)).take ((n - i) * 4)).length = (n - i) * 4 := by simp; omega
  have hcp1 : ∀ ty dc sc, (Builtin.copy_ #[22, 22] ty #[.slice (some ⟨b, (i + 1) * 4, none⟩) (n - i) dc, .slice (some ⟨b, i * 4, none⟩) (n + 1 - i) sc]).run Try.prog w.drew = .ok (goInt ((n - i : Nat) : Int)) (w.drew.setRow b (spl12 cur.toList ((i + 1) * 4) ((cur.toList.drop (i * 4)).take ((n - i) * 4))).toArray) := fun ty dc sc =>
    run_copy_row12 w.drew _ _ ty 48 4 b ((i + 1) * 4) (n - i) dc ⟨b, i * 4, none⟩ (n + 1 - i) sc cur 48 _ (n - i) Try.underlying22 size_wait12' hcur (by simp only [Nat.min_def]; split <;> omega) hlen1 (fun j u hj => by
      rw [Addr.add_lit, hcur.draw.cell]
      rw [List.getElem?_take] at hj
      split at hj
      · rw [List.getElem?_drop] at hj
        simpa using hj
      · cases hj) (by rw [hlen1, ← Array.length_toList, hcl]; omega) h1c
  obtain ⟨W1, hW1⟩ : ∃ W1, W1 = w.drew.setRow b (spl12 cur.toList ((i + 1) * 4) ((cur.toList.drop (i * 4)).take ((n - i) * 4))).toArray := ⟨_, rfl⟩
  rw [← hW1] at hcp1
  have hcur1 : Has W1 b 48 (spl12 cur.toList ((i + 1) * 4) ((cur.toList.drop (i * 4)).take ((n - i) * 4))).toArray := by rw [hW1]; exact has_row11 hcur.draw _
  have hv1 : Has W1 g 48 news.toArray := by rw [hW1]; exact has_rowo11 hv.draw hne _
  have hg1 : w.grownBy W1 (some b) := by rw [hW1]; exact only_trans (only_draw (only_refl w _)) (only_row11 w.drew b _)
  have hsl : (spl12 cur.toList ((i + 1) * 4) ((cur.toList.drop (i * 4)).take ((n - i) * 4))).length = c * 4 := by rw [spl12_len _ _ _ (by rw [hlen1, hcl]; omega), hcl]
  have hfin := ins_list12 cur.toList news (i * 4) 4 ((n - i) * 4) hl (by rw [hcl]; omega)
  rw [show i * 4 + 4 = (i + 1) * 4 by omega, show (i + 1) * 4 + (n - i) * 4 = (n + 1) * 4 by omega, show i * 4 + (n - i) * 4 = n * 4 by omega, hx] at hfin
  have hxt : cur.toList.take (i * 4) = xs.take (i * 4) := by rw [← hx, List.take_take, Nat.min_eq_left (by omega)]
  rw [hxt] at hfin
  generalize spl12 cur.toList ((i + 1) * 4) ((cur.toList.drop (i * 4)).take ((n - i) * 4)) = X1 at *
  have hcp2 : ∀ ty dc, (Builtin.copy_ #[22, 22] ty #[.slice (some ⟨b, i * 4, none⟩) (n + 1 - i) dc, .slice (some ⟨g, 0, none⟩) 1 vc]).run Try.prog W1 = .ok (goInt 1) (W1.setRow b (spl12 X1 (i * 4) news).toArray) := fun ty dc =>
    run_copy_row12 W1 _ _ ty 48 4 b (i * 4) (n + 1 - i) dc ⟨g, 0, none⟩ 1 vc X1.toArray 48 news 1 Try.underlying22 size_wait12' hcur1 (by simp only [Nat.min_def]; split <;> omega) (by omega) (fun j u hj => by
      rw [Addr.add_lit, hv1.cell]
      simpa using hj) (by rw [List.size_toArray, hsl, hl]; omega) h1
  obtain ⟨W2, hW2⟩ : ∃ W2, W2 = W1.setRow b (spl12 X1 (i * 4) news).toArray := ⟨_, rfl⟩
  rw [← hW2] at hcp2
  have HO2 : Hid (W2.ownsRow base 48 4 (.slice (some ⟨b, 0, none⟩) (n + 1) c) (n + 1) (xs.take (i * 4) ++ news ++ xs.drop (i * 4))) := Lib.hid (has_own12 (cur := (spl12 X1 (i * 4) news).toArray) hbase (by rw [hW2]; exact has_row11 hcur1 _) hroom hcm (by rw [List.size_toArray, spl12_len _ _ _ (by rw [hsl, hl]; omega), hsl]) hfin)
  have HG2 : Hid (w.grownBy W2 (some b)) := Lib.hid (by rw [hW2]; exact only_trans hg1 (only_row11 _ _ _))
  clear ho hx hv hcur hcm hfin hxt hsl hg1 hv1 hcur1 hW1 hW2 hlen1 h1c hcl h1 h1x hcs
  go_enter Try.func30, Try.ntmps30
  go_wp2_with (simp only [hov])
  go_region_law (refine step_copy_runI rfl _ _ 22 22 rfl _ _ (by simp [Act.eval, Act.put]) (by simp [Act.eval, Act.put]) (hcp1 _ _ _) ?_)
  go_wp2_with (at_builtin; refine wpList_copy_runI _ rfl _ _ 22 22 rfl _ _ rfl rfl (hcp2 _ _) ?_)
  go_ret
  exact ⟨rfl, HO2, HG2⟩

set_option maxRecDepth 100000 in
set_option maxHeartbeats 4000000 in
theorem oins_grow (base b n i g vc : Nat) (xs news : List Value) (w : World) (ho : w.ownsRow base 48 4 (.slice (some ⟨b, 0, none⟩) n n) n xs) (hi : i < n) (hn : n ≤ 100000) (hbase : base ≤ w.heap.size)
    (hv : Has w g 48 news.toArray) (hl : news.length = 4) (h1 : ∀ u ∈ news, u.oneCell' = true) (h1x : ∀ u ∈ xs, u.oneCell' = true) :
    Calls Try.prog 30 #[.slice (some ⟨b, 0, none⟩) n n, .int .i64 i, .slice (some ⟨g, 0, none⟩) 1 vc] w fun e w' => ∃ A' c', e = .returned (.slice A' (n + 1) c') ∧ Hid (w'.ownsRow base 48 4 (.slice A' (n + 1) c') (n + 1) (xs.take (i * 4) ++ news ++ xs.drop (i * 4))) ∧ Hid (w.grownBy w' (some b)) := by
  have hxl := ho.1
  obtain ⟨b', cur, hb', _, hcur, hnc, hcm, hcs, hx⟩ := own_has12 ho
  injection hb' with hb' _ _
  subst hb'
  have hcur_x : ∀ j u, xs[j]? = some u → w.cell? ⟨b, j, none⟩ = some u := fun j u hj => by
    rw [hcur.cell, ← Array.getElem?_toList]
    rw [← hx, List.getElem?_take] at hj
    split at hj
    · exact hj
    · cases hj
  have hz2 : ¬ ((i : Int) = (n : Int)) := by omega
  have hcm' : n ≤ 9223372036854775807 := by unfold maxLen at hcm; omega
  have hkk : (n : Int) + 1 - (i : Int) = ((n + 1 - i : Nat) : Int) := by omega
  have hik : i + (n + 1 - i) = n + 1 := by omega
  obtain ⟨i0, hi0, hz0, hzs, hzb⟩ := info_parts (P := Try.prog) info_wait
  have hold : (Builtin.firstCells i0.size i (.slice (some ⟨b, 0, none⟩) i n)).run Try.prog w.drew = .ok (xs.take (i * 4)).toArray w.drew := by
    rw [hzs]
    exact run_firstCells_some w.drew 4 i ⟨b, 0, none⟩ i n (xs.take (i * 4)) (by rw [List.length_take, hxl]; omega) (fun j v hj => by
      rw [Addr.add_lit, Nat.zero_add]
      rw [List.getElem?_take] at hj
      split at hj
      · exact hcur_x j v hj
      · cases hj)
  have hrz : ∀ ty, (Builtin.append_ #[22, 3] ty #[.slice (some ⟨b, 0, none⟩) i n, .int .i64 ((n : Int) + 1 - (i : Int))]).run Try.prog w =
      .ok (.slice (some ⟨w.heap.size, 0, none⟩) (n + 1) (grownCap w (n + 1) n 48)) (w.drew.alloc (.cells ((xs.take (i * 4)).toArray ++ Builtin.zeroCells (Value.agg #[.int .i64 0, .int .i64 0, .int .i64 0, .slice none 0 0]).cells (n + 1 - i) ++ Builtin.zeroCells (Value.agg #[.int .i64 0, .int .i64 0, .int .i64 0, .slice none 0 0]).cells (grownCap w (n + 1) n 48 - (n + 1))) 48)) := fun ty => by
    have h := Lib.run_append_grow_zeros w 22 3 ty 48 i0 _ .i64 .i64 Try.underlying22 Try.underlying3 hi0 hz0 (some ⟨b, 0, none⟩) i n (xs.take (i * 4)) hold (n + 1 - i) (by omega) (by omega) (by omega) (by omega) (by rw [hzb]; omega) (by rw [hzb, hik]; exact growslice_fits (by omega) (by omega))
    rw [hik] at h
    rw [hkk]
    exact h
  have hGn : n + 1 ≤ grownCap w (n + 1) n 48 := grownCap_ge w _ _ _
  have hGm : grownCap w (n + 1) n 48 ≤ maxLen := grownCap_le_maxLen w _ _ _ (by unfold maxLen; omega)
  generalize grownCap w (n + 1) n 48 = G at *
  obtain ⟨zs, hzs'⟩ : ∃ zs, zs = (Builtin.zeroCells (Value.agg #[.int .i64 0, .int .i64 0, .int .i64 0, .slice none 0 0]).cells (n + 1 - i)).toList ++ (Builtin.zeroCells (Value.agg #[.int .i64 0, .int .i64 0, .int .i64 0, .slice none 0 0]).cells (G - (n + 1))).toList := ⟨_, rfl⟩
  have hzl : zs.length = (G - i) * 4 := by rw [hzs']; simp [Builtin.zeroCells, Value.cells]; omega
  have hrow : (xs.take (i * 4)).toArray ++ Builtin.zeroCells (Value.agg #[.int .i64 0, .int .i64 0, .int .i64 0, .slice none 0 0]).cells (n + 1 - i) ++ Builtin.zeroCells (Value.agg #[.int .i64 0, .int .i64 0, .int .i64 0, .slice none 0 0]).cells (G - (n + 1)) = (xs.take (i * 4) ++ zs).toArray := by
    apply Array.toList_inj.1
    rw [hzs']
    simp
  rw [hrow] at hrz
  clear hrow hzs' hold hi0 hz0 hzs hzb
  have hbw : b < w.heap.size := hcur.lt
  have hgw : g < w.heap.size := hv.lt
  obtain ⟨W1, hW1⟩ : ∃ W1, W1 = w.drew.alloc (.cells (xs.take (i * 4) ++ zs).toArray 48) := ⟨_, rfl⟩
  rw [← hW1] at hrz
  have hr1 : Has W1 w.heap.size 48 (xs.take (i * 4) ++ zs).toArray := by rw [hW1]; exact has_at11 rfl
  have hv1 : Has W1 g 48 news.toArray := by rw [hW1]; exact hv.draw.beside _
  have hc1 : Has W1 b 48 cur := by rw [hW1]; exact hcur.draw.beside _
  have hg1 : w.grownBy W1 (some b) := by rw [hW1]; exact only_alloc (only_draw (only_refl w _)) _
  have hl1 : (xs.take (i * 4) ++ zs).length = G * 4 := by rw [List.length_append, List.length_take, hzl, hxl]; omega
  have hcp1 : ∀ ty dc, (Builtin.copy_ #[22, 22] ty #[.slice (some ⟨w.heap.size, i * 4, none⟩) (n + 1 - i) dc, .slice (some ⟨g, 0, none⟩) 1 vc]).run Try.prog W1 = .ok (goInt 1) (W1.setRow w.heap.size (spl12 (xs.take (i * 4) ++ zs) (i * 4) news).toArray) := fun ty dc =>
    run_copy_row12 W1 _ _ ty 48 4 w.heap.size (i * 4) (n + 1 - i) dc ⟨g, 0, none⟩ 1 vc (xs.take (i * 4) ++ zs).toArray 48 news 1 Try.underlying22 size_wait12' hr1 (by simp only [Nat.min_def]; split <;> omega) (by omega) (fun j u hj => by
      rw [Addr.add_lit, hv1.cell]
      simpa using hj) (by rw [List.size_toArray, hl1, hl]; omega) h1
  obtain ⟨W2, hW2⟩ : ∃ W2, W2 = W1.setRow w.heap.size (spl12 (xs.take (i * 4) ++ zs) (i * 4) news).toArray := ⟨_, rfl⟩
  rw [← hW2] at hcp1
  have hr2 : Has W2 w.heap.size 48 (spl12 (xs.take (i * 4) ++ zs) (i * 4) news).toArray := by rw [hW2]; exact has_row11 hr1 _
  have hc2 : Has W2 b 48 cur := by rw [hW2]; exact has_rowo11 hc1 (by omega) _
  have hg2 : w.grownBy W2 (some b) := by
    rw [hW2]
    refine ⟨hg1.os, hg1.tape, hg1.output, by simpa using hg1.size, fun k hk hne => ?_⟩
    rw [setRow_other W1 w.heap.size k _ (by omega)]
    exact hg1.block k hk hne
  have hl2 : (spl12 (xs.take (i * 4) ++ zs) (i * 4) news).length = G * 4 := by rw [spl12_len _ _ _ (by rw [hl1, hl]; omega), hl1]
  have hfin := grow_list12 xs news zs (i * 4) 4 hl (by rw [hxl]; omega)
  rw [show i * 4 + 4 = (i + 1) * 4 by omega, show 4 + xs.length = (n + 1) * 4 by rw [hxl]; omega] at hfin
  generalize spl12 (xs.take (i * 4) ++ zs) (i * 4) news = X2 at *
  have hdl : (xs.drop (i * 4)).length = (n - i) * 4 := by rw [List.length_drop, hxl]; omega
  have hcp2 : ∀ ty dc sc, (Builtin.copy_ #[22, 22] ty #[.slice (some ⟨w.heap.size, (i + 1) * 4, none⟩) (n - i) dc, .slice (some ⟨b, i * 4, none⟩) (n - i) sc]).run Try.prog W2.drew = .ok (goInt ((n - i : Nat) : Int)) (W2.drew.setRow w.heap.size (spl12 X2 ((i + 1) * 4) (xs.drop (i * 4))).toArray) := fun ty dc sc =>
    run_copy_row12 W2.drew _ _ ty 48 4 w.heap.size ((i + 1) * 4) (n - i) dc ⟨b, i * 4, none⟩ (n - i) sc X2.toArray 48 _ (n - i) Try.underlying22 size_wait12' hr2 (by simp only [Nat.min_def]; split <;> omega) hdl (fun j u hj => by
      rw [Addr.add_lit, hc2.draw.cell, ← Array.getElem?_toList]
      rw [List.getElem?_drop, ← hx, List.getElem?_take] at hj
      split at hj
      · exact hj
      · cases hj) (by rw [List.size_toArray, hl2, hdl]; omega) (fun u hu => h1x u (List.mem_of_mem_drop hu))
  obtain ⟨W3, hW3⟩ : ∃ W3, W3 = W2.drew.setRow w.heap.size (spl12 X2 ((i + 1) * 4) (xs.drop (i * 4))).toArray := ⟨_, rfl⟩
  rw [← hW3] at hcp2
  have HO3 : Hid (W3.ownsRow base 48 4 (.slice (some ⟨w.heap.size, 0, none⟩) (n + 1) G) (n + 1) (xs.take (i * 4) ++ news ++ xs.drop (i * 4))) := Lib.hid (has_own12 (cur := (spl12 X2 ((i + 1) * 4) (xs.drop (i * 4))).toArray) hbase (by rw [hW3]; exact has_row11 hr2.draw _) hGn hGm (by rw [List.size_toArray, spl12_len _ _ _ (by rw [hl2, hdl]; omega), hl2]) hfin)
  have HG3 : Hid (w.grownBy W3 (some b)) := Lib.hid (by
    rw [hW3]
    refine ⟨hg2.os, hg2.tape, hg2.output, by simpa using hg2.size, fun k hk hne => ?_⟩
    rw [setRow_other W2.drew w.heap.size k _ (by omega)]
    exact hg2.block k hk hne)
  have hG63 : G ≤ 9223372036854775807 := by unfold maxLen at hGm; omega
  have hGi : ¬ (G = i) := by omega
  have hGim : ¬ (G = i + 1) := by omega
  have hci : ¬ (n = i) := by omega
  have hw1 : IntKind.i64.wrap ((i : Int) + 1) = (i : Int) + 1 := by rw [IntKind.wrap_i64]; omega
  have hb1 : (0 : Int) ≤ (i : Int) + 1 := by omega
  have hin : i ≤ n := by omega
  have htn : ((i : Int) + 1).toNat = i + 1 := by omega
  have hb3 : (i : Int) ≤ (n : Int) := by omega
  clear ho hx hv hcur hcm hfin hg1 hv1 hW1 hW2 hW3 hl1 hl2 hdl h1 h1x hcs hcur_x hr1 hr2 hc1 hc2 hg2 hzl hkk hik hxl hbw hgw hbase hnc hGm
  go_enter Try.func30, Try.ntmps30
  go_wp2_with (first
    | (at_builtin; refine Lib.wpList_append_run _ rfl _ _ _ _ rfl _ _ rfl rfl _ _ (hrz _) ?_)
    | (at_builtin; refine wpList_copy_runI _ rfl _ _ 22 22 rfl _ _ rfl rfl (hcp1 _ _) ?_))
  go_region_law (refine step_copy_runI rfl _ _ 22 22 rfl _ _ (by simp [Act.eval, Act.put]) (by simp [Act.eval, Act.put]) (hcp2 _ _ _) ?_)
  go_wp2
  go_ret
  exact ⟨_, _, rfl, HO3, HG3⟩
end Go.Proofs.Ytbohoejikihnfaa
