/-
  package packet's Size, Known, Up, by contract.
-/
import Derived.Test.YtccmickemglmaaaDoorPkReal

namespace Go.Proofs.YtccmickemglmaaaDoor

open Go.RowKit

theorem run_neq_nil {P : Program} (w : World) (t e : TypeId) (a : Option Addr) (n c : Nat) (h : P.underlying t = some (.slice e)) :
    (binOp .neq t (.slice a n c) (.slice none 0 0)).run P w = .ok (.bool (!a.isNone)) w := by
  simp only [binOp]
  simp [Op.equal, Op.maxDepth, Lib.run_equalIn_slice_nil w 9999 t e a n c 0 0 h]
set_option maxHeartbeats 1000000 in
theorem opk_known (id : Int) (w : World) : Calls Tryd.prog 15 #[.int .i64 id] w fun e w' => e = .returned (.bool (knownB id)) ∧ Below w.heap.size w w' := by
  cases hk : knownB id
  · have HL := Lib.hid (layout_no id hk w)
    have hnil : ∀ w, (binOp .neq 64 (.slice none 0 0) (.slice none 0 0)).run Tryd.prog w = .ok (.bool false) w := fun w => run_neq_nil w _ _ none 0 0 Tryd.underlying64
    clear hk
    go_enter Tryd.func15, Tryd.ntmps15
    go_wp2_with fail
    refine HL.out.mono ?_
    rintro e w' ⟨rfl, rfl⟩
    go_wp2
    go_ret
    exact ⟨rfl, Below.refl _ _⟩
  · have HL := Lib.hid (layout_yes w.heap.size id hk w (Nat.le_refl _))
    have HK := Lib.hid hk
    clear hk
    go_enter Tryd.func15, Tryd.ntmps15
    go_wp2_with fail
    refine HL.out.mono ?_
    rintro e w2 ⟨A2, n2, c2, l, rfl, hp, hnd, hb⟩
    have hn0 : 0 < n2 := by
      obtain ⟨pre, a, post, sh⟩ := shape_of HK.out
      rw [← hp.len]
      cases l with
      | nil => have := sh.seven; rw [← hnd] at this; simp [ndPts, c7] at this
      | cons x l => simp
    obtain ⟨ad, rfl⟩ := hp.addr hn0
    have hnil : ∀ w, (binOp .neq 64 (.slice (some ad) n2 c2) (.slice none 0 0)).run Tryd.prog w = .ok (.bool true) w := fun w => run_neq_nil w _ _ (some ad) n2 c2 Tryd.underlying64
    have HB := Lib.hid hb
    clear hp hnd hb hn0 HL
    go_wp2
    go_ret
    exact ⟨rfl, HB.out⟩
theorem opk_up (id : Int) (w : World) : Calls Tryd.prog 17 #[.int .i64 id] w fun e w' => e = .returned (.bool (upB id)) ∧ Below w.heap.size w w' := by
  have e : upB id = (decide (id = 0) || decide (id = 1) || decide (id = 11)) := rfl
  by_cases h0 : id = 0
  · subst h0
    go_enter Tryd.func17, Tryd.ntmps17
    go_wp2
    go_ret
    exact ⟨rfl, Below.refl _ _⟩
  · by_cases h1 : id = 1
    · subst h1
      go_enter Tryd.func17, Tryd.ntmps17
      go_wp2
      go_ret
      exact ⟨rfl, Below.refl _ _⟩
    · rw [e, decide_eq_false h0, decide_eq_false h1]
      have x0 : (id == 0) = false := by simp [h0]
      have x1 : (id == 1) = false := by simp [h1]
      clear e h0 h1
      by_cases h2 : id = 11
      · subst h2
        go_enter Tryd.func17, Tryd.ntmps17
        go_wp2
        go_ret
        exact ⟨rfl, Below.refl _ _⟩
      · have x2 : (id == 11) = false := by simp [h2]
        rw [decide_eq_false h2]
        clear h2
        go_enter Tryd.func17, Tryd.ntmps17
        go_wp2
        go_ret
        exact ⟨rfl, Below.refl _ _⟩

set_option maxRecDepth 100000 in
set_option maxHeartbeats 2000000 in
theorem opk_size (id : Int) (A : Option Addr) (n c : Nat) (V : List Int) (w : World) (hV : SlI w.heap.size w A n c V) (hn : n ≤ 10000) (hwd : Wd w) :
    Calls Tryd.prog 13 #[pkV id A n c] w fun e w' => e = .returned (.int .i64 (totalOf (itemsF id V).1)) ∧ Below w.heap.size w w' := by
  have hb : Below w.heap.size w (w.alloc (.cells #[.int .i64 id, .slice A n c] 24)) := (Below.refl _ _).alloc (Nat.le_refl _) _
  have HI := Lib.hid (opk_items id A n c V _ (sli_under hV hb hb.size) (by omega) (hwd.under hb))
  have hfit := items_fit id V
  have hlen := items_len id V (by rw [hV.len]; omega)
  have HB := Lib.hid hb
  unfold ItemsPost at HI
  generalize itemsF id V = T at *
  obtain ⟨l, ec⟩ := T
  simp only at *
  obtain ⟨R, hR⟩ : ∃ R, totalOf l = R := ⟨_, rfl⟩
  rw [hR]
  have HF := Lib.hid hfit; have HLN := Lib.hid hlen; have HR := Lib.hid hR
  clear hV hb hfit hlen hwd hR
  unfold pkV at *
  go_enter Tryd.func13, Tryd.ntmps13
  go_wp2_with fail
  refine HI.out.mono ?_
  rintro e w2 ⟨A', m, c', rfl, hsl, hb2⟩
  have hlen := hsl.len
  have hm : m ≤ 1000000 := by have := HLN.out; omega
  have HL := Lib.hid hsl; have HB2 := Lib.hid (HB.out.trans (hb2.mono HB.out.size)); have HLE := Lib.hid hlen
  clear hsl hb2 HI HB HLN hlen
  go_wp2
  go_loopg [3, 15] m (fun kk sv iv wl => ∃ (j : Nat) (t : Int), j ≤ m ∧ m - j ≤ kk ∧ iv = .int .i64 j ∧ sv = .int .i64 t ∧ totalOf (l.take j) = t ∧ 0 ≤ t ∧ t ≤ 64 * (j : Int) ∧ Below w2.heap.size w2 wl)
  case atStart => exact ⟨0, 0, by omega, by omega, rfl, rfl, rfl, by omega, by omega, Below.refl _ _⟩
  case round =>
    obtain ⟨j, t, hj, hjk, rfl, rfl, ht, h0, h1, hbl⟩ := hrel
    have HT := Lib.hid ht; have HBL := Lib.hid hbl; clear ht hbl
    by_cases hlt : j < m
    · obtain ⟨b, off, rfl, hc1, hc2⟩ := (HL.out.under HBL.out).at_ hlt
      have hjl : j < l.length := by have := HLE.out; omega
      have hb := HF.out (l.getD j (0, 0)) (by rw [List.getD_eq_getElem?_getD, List.getElem?_eq_getElem hjl]; exact List.getElem_mem hjl)
      have hst := total_step l j hjl
      rw [HT.out] at hst
      obtain ⟨_, _, b1, b2⟩ := hb
      generalize (l.getD j (0, 0)).2 = x at *
      generalize (l.getD j (0, 0)).1 = y at *
      have HST := Lib.hid hst; clear hst hjl
      have x0 : (0 : Int) ≤ j := by omega
      have x1 : (j : Int) < m := by omega
      have HB3 := Lib.hid (HBL.out.alloc HBL.out.size (.cells #[.int .i64 y, .int .i64 x] 49))
      go_wp2
      go_roundg (gk - 1)
      case measure => omega
      case rel => exact ⟨j + 1, t + x, by omega, by omega, by go_num, by go_num, HST.out, by omega, by omega, HB3.out⟩
    · obtain rfl : j = m := by omega
      have e : l.take j = l := by rw [← HLE.out, List.take_length]
      have ht := HT.out
      rw [e, HR.out] at ht
      subst ht
      go_wp2
      go_ret
      exact ⟨rfl, HB2.out.trans (HBL.out.mono HB2.out.size)⟩
end Go.Proofs.YtccmickemglmaaaDoor
