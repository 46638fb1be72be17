/-
  package link as landed: Acked.
-/
import Derived.Test.YtbohoejikihnfaaLkOJ

namespace Go.Proofs.Ytbohoejikihnfaa

open Go.RowKit

open Go.Great

theorem cellsW_take (l : List (W0 × Value)) (i : Nat) : (cellsW l).take (i * 4) = cellsW (l.take i) := by
  induction l generalizing i with
  | nil => simp [cellsW]
  | cons x r ih =>
    cases i with
    | zero => simp [cellsW]
    | succ j =>
      show (wtC x ++ cellsW r).take ((j + 1) * 4) = wtC x ++ cellsW (r.take j)
      rw [List.take_append, List.take_of_length_le (by show 4 ≤ (j + 1) * 4; omega), show (j + 1) * 4 - (wtC x).length = j * 4 by show (j + 1) * 4 - 4 = j * 4; omega, ih]
theorem cellsW_drop (l : List (W0 × Value)) (i : Nat) : (cellsW l).drop (i * 4) = cellsW (l.drop i) := by
  induction l generalizing i with
  | nil => simp [cellsW]
  | cons x r ih =>
    cases i with
    | zero => simp
    | succ j =>
      show (wtC x ++ cellsW r).drop ((j + 1) * 4) = cellsW (r.drop j)
      rw [List.drop_append, List.drop_eq_nil_of_le (by show 4 ≤ (j + 1) * 4; omega), List.nil_append, show (j + 1) * 4 - (wtC x).length = j * 4 by show (j + 1) * 4 - 4 = j * 4; omega, ih]
theorem posT_del {ws : List W0} {t : Int} {i : Nat} (h : PosT ws t i) (hh : hasT ws t = true) (hs : ws.Pairwise fun a b => a.t < b.t) : i < ws.length ∧ (ws.filter fun x => x.t != t) = ws.take i ++ ws.drop (i + 1) := by
  have hi : i < ws.length := by
    rcases Nat.lt_or_ge i ws.length with h1 | h1
    · exact h1
    · obtain rfl : i = ws.length := by have := h.1; omega
      rw [posT_end h] at hh
      cases hh
  refine ⟨hi, ?_⟩
  have hx := List.getElem?_eq_getElem hi
  have hxt : ws[i].t = t := by
    have := posT_has h hx hs
    rw [hh] at this
    exact of_decide_eq_true this.symm
  have e1 : (ws.take i).filter (fun x => x.t != t) = ws.take i := List.filter_eq_self.2 fun y hy => by
    obtain ⟨j, hj, rfl⟩ := List.getElem_of_mem hy
    rw [List.length_take] at hj
    have := h.2.1 j _ (List.getElem?_eq_getElem (by omega)) (by omega)
    rw [List.getElem_take]
    simp
    omega
  have e2 : (ws.drop (i + 1)).filter (fun x => x.t != t) = ws.drop (i + 1) := List.filter_eq_self.2 fun y hy => by
    obtain ⟨j, hj, rfl⟩ := List.getElem_of_mem hy
    rw [List.length_drop] at hj
    rw [List.getElem_drop]
    have h2 := sort_lt12 hs hx (List.getElem?_eq_getElem (show i + 1 + j < ws.length by omega)) (by omega)
    simp
    omega
  conv => lhs; rw [← List.take_append_drop i ws, List.drop_eq_getElem_cons hi]
  rw [List.filter_append, e1, List.filter_cons_of_neg (by simp [hxt]), e2]
theorem bodies_one12 {P : Nat → Prop} {w0 : World} {l : List (W0 × Value)} (hp : ∀ p ∈ l, BodyR P w0 p.2 p.1.body) : ∀ u ∈ cellsW l, u.oneCell' = true := cellsW_ones fun p h => (hp p h).one

set_option maxRecDepth 100000 in
set_option maxHeartbeats 8000000 in
theorem olk_acked {P : Nat → Prop} (l : L0) (A : Option Addr) (c : Nat) (t : Int) (w : World) (hw : WsR P w A l.ws.length c l.ws) (hL : lightL l = true) :
    Calls Try.prog 13 #[.agg (lkC l A c), .int .i64 t] w fun e w' => ∃ A' c', e = .returned (.tuple #[.agg (lkC (ackedL l t) A' c'), .int .i64 (ackedE l t)]) ∧ WsR (Nw P w w') w' A' (ackedL l t).ws.length c' (ackedL l t).ws ∧ Below w.heap.size w w' := by
  obtain ⟨wa, hwa⟩ : ∃ wa, (w.alloc (.cells (lkC l A c) 24)).alloc (.cells #[.int .i64 0, .int .i64 0, .int .i64 0, .int .i64 0, .slice none 0 0] 24) = wa := ⟨_, rfl⟩
  have hbwa : Below w.heap.size w wa := by rw [← hwa]; exact ((Below.refl _ _).alloc (Nat.le_refl _) _).alloc (by simp) _
  have h0 : Has wa (w.heap.size) 24 (lkC l A c) := by rw [← hwa]; exact ((Has.made _ _ _).beside _)
  have h1 : Has wa (w.heap.size + 1) 24 #[.int .i64 0, .int .i64 0, .int .i64 0, .int .i64 0, .slice none 0 0] := by rw [← hwa]; exact (has_at11 (by simp))
  have HWA := Lib.hid hwa; have HBWA := Lib.hid hbwa
  have HL := Lib.hid (light_nums hL)
  have hlow := hw.low
  have HM := Lib.hid (fun W (hW : WsR (fun b => P b ∧ b < w.heap.size) W A l.ws.length c l.ws) => olk_may l A c W hW hL)
  have HCL := Lib.hid (fun W (hW : WsR (fun b => P b ∧ b < w.heap.size) W A l.ws.length c l.ws) => oclone_any l A c W hW (by have := HL.out.1; omega) HL.out.2)
  have HW0 := Lib.hid hlow
  have HW := Lib.hid (hlow.under hbwa)
  have HC := Lib.hid (fun W (hW : Below wa.heap.size wa W) => And.intro (h0.under hW h0.lt) (And.intro (h1.under hW h1.lt) (HW.out.under hW)))
  have HP := Lib.hid h0
  clear hwa hbwa h0 h1 hw hlow hL
  have hr1 : mayL l = false → ackedL l t = l0z ∧ ackedE l t = 1 := fun h => by
    have e : ackedE l t = 1 := by unfold ackedE; rw [h]; rfl
    exact ⟨by unfold ackedL; rw [e]; rfl, e⟩
  have hr2 : mayL l = true → hasT l.ws t = false → ackedL l t = l0z ∧ ackedE l t = 4 := fun h h2 => by
    have e : ackedE l t = 4 := by unfold ackedE; rw [h, h2]; rfl
    exact ⟨by unfold ackedL; rw [e]; rfl, e⟩
  have hr3 : mayL l = true → hasT l.ws t = true → ackedL l t = { l with ws := l.ws.filter fun x => x.t != t } ∧ ackedE l t = 0 := fun h h2 => by
    have e : ackedE l t = 0 := by unfold ackedE; rw [h, h2]; rfl
    exact ⟨by unfold ackedL; rw [e]; rfl, e⟩
  have HR1 := Lib.hid hr1; have HR2 := Lib.hid hr2; have HR3 := Lib.hid hr3
  have HMS0 := Lib.hid (fun h => may_sort (l := l) h)
  clear hr1 hr2 hr3
  generalize ackedL l t = r at *
  generalize ackedE l t = er at *
  obtain ⟨bm, hbm⟩ : ∃ bm, mayL l = bm := ⟨_, rfl⟩
  rw [hbm] at HM HR1 HR2 HR3 HMS0
  clear hbm
  cases bm with
  | false =>
    obtain ⟨rfl, rfl⟩ := HR1.out rfl
    clear HR1 HR2 HR3
    go_enter Try.func13, Try.ntmps13
    go_upto_region 1 with fail
    rw [HWA.out]
    clear HWA
    go_wp2_with (with_reducible refine wpList_load_row (o := ⟨some 8, _, _, _, _, _⟩) rfl 24 _ rfl (w.heap.size) rfl 24 (lkC l A c) (0, 0) _ (HP.out).raw11 Try.underlying24 rfl (by kernel_rfl) ?_)
    refine (HM.out _ (HW.out.under (Below.refl _ _))).mono ?_
    rintro e w1 ⟨rfl, hb1⟩
    obtain ⟨hp, hz, hw1⟩ := HC.out w1 hb1
    have HP1 := Lib.hid hp; have HZ1 := Lib.hid hz; have HW1 := Lib.hid hw1
    have HB1 := Lib.hid (HBWA.out.trans (hb1.mono HBWA.out.size))
    clear hp hz hw1 hb1 HP HC HM HBWA HW
    have HR := Lib.hid (has_row11 HZ1.out #[.int .i64 0, .int .i64 0, .int .i64 0, .int .i64 0, .slice none 0 0])
    have HBF := Lib.hid (below_row (g := w.heap.size + 1) HB1.out (by omega) #[.int .i64 0, .int .i64 0, .int .i64 0, .int .i64 0, .slice none 0 0])
    go_wp2_with (with_reducible refine wpList_store_rowTo (o := ⟨none, _, _, _, _, _⟩) rfl 24 _ _ rfl rfl (w.heap.size + 1) #[.int .i64 0, .int .i64 0, .int .i64 0, .int .i64 0, .slice none 0 0] rfl rfl 24 _ (HZ1.out).raw11 (by kernel_rfl) (by kernel_rfl) (by kernel_rfl) ?_)
    refine bodyPost_ret (results_row_tmp11 rfl _ _ (w.heap.size + 1) 24 _ _ rfl HR.out Try.underlying24 rfl (by kernel_rfl)) rfl ?_
    exact ⟨none, 0, rfl, WsR.nil _, HBF.out⟩
  | true =>
    have HMS := Lib.hid (HMS0.out rfl)
    clear HMS0
    obtain ⟨bh, hbh⟩ : ∃ bh, hasT l.ws t = bh := ⟨_, rfl⟩
    have HBH := Lib.hid hbh
    rw [hbh] at HR2 HR3
    clear hbh HR1
    cases bh with
    | false =>
      obtain ⟨rfl, rfl⟩ := HR2.out rfl rfl
      clear HR2 HR3
      go_enter Try.func13, Try.ntmps13
      go_upto_region 1 with fail
      rw [HWA.out]
      clear HWA
      go_wp2_with (with_reducible refine wpList_load_row (o := ⟨some 8, _, _, _, _, _⟩) rfl 24 _ rfl (w.heap.size) rfl 24 (lkC l A c) (0, 0) _ (HP.out).raw11 Try.underlying24 rfl (by kernel_rfl) ?_)
      refine (HM.out _ (HW.out.under (Below.refl _ _))).mono ?_
      rintro e w1 ⟨rfl, hb1⟩
      obtain ⟨hp, hz, hw1⟩ := HC.out w1 hb1
      have HP1 := Lib.hid hp; have HZ1 := Lib.hid hz; have HW1 := Lib.hid hw1
      have HB1 := Lib.hid (HBWA.out.trans (hb1.mono HBWA.out.size))
      clear hp hz hw1 hb1 HP HC HM HBWA HW
      have m4 : w1.cell? ⟨w.heap.size, 4, none⟩ = some (.slice A l.ws.length c) := HP1.out.cell 4
      go_wp2_with fail
      refine (ofind_any A c l.ws l.ws.length t w1 HW1.out HMS.out.2 (by have := HMS.out.1; omega)).mono ?_
      rintro e w2 ⟨i, rfl, hpos, hb2⟩
      have HPOS := Lib.hid hpos
      have HP2 := Lib.hid (HP1.out.under hb2 HP1.out.lt); have HZ2 := Lib.hid (HZ1.out.under hb2 HZ1.out.lt); have HW2 := Lib.hid (HW1.out.under hb2); have HB2 := Lib.hid (HB1.out.trans (hb2.mono HB1.out.size))
      clear HP1 HZ1 HW1 HB1 hb2 m4 hpos
      rw [HBH.out]
      clear HBH HPOS HMS HW2
      have HR := Lib.hid (has_row11 HZ2.out #[.int .i64 0, .int .i64 0, .int .i64 0, .int .i64 0, .slice none 0 0])
      have HBF := Lib.hid (below_row (g := w.heap.size + 1) HB2.out (by omega) #[.int .i64 0, .int .i64 0, .int .i64 0, .int .i64 0, .slice none 0 0])
      go_wp2_with (with_reducible refine wpList_store_rowTo (o := ⟨none, _, _, _, _, _⟩) rfl 24 _ _ rfl rfl (w.heap.size + 1) #[.int .i64 0, .int .i64 0, .int .i64 0, .int .i64 0, .slice none 0 0] rfl rfl 24 _ (HZ2.out).raw11 (by kernel_rfl) (by kernel_rfl) (by kernel_rfl) ?_)
      refine bodyPost_ret (results_row_tmp11 rfl _ _ (w.heap.size + 1) 24 _ _ rfl HR.out Try.underlying24 rfl (by kernel_rfl)) rfl ?_
      exact ⟨none, 0, rfl, WsR.nil _, HBF.out⟩
    | true =>
      obtain ⟨rfl, rfl⟩ := HR3.out rfl rfl
      clear HR2 HR3
      obtain ⟨ws2, hws2⟩ : ∃ ws2, (l.ws.filter fun x => x.t != t) = ws2 := ⟨_, rfl⟩
      rw [hws2]
      have HWS2 := Lib.hid hws2
      clear hws2
      go_enter Try.func13, Try.ntmps13
      go_upto_region 1 with fail
      rw [HWA.out]
      clear HWA
      go_wp2_with (with_reducible refine wpList_load_row (o := ⟨some 8, _, _, _, _, _⟩) rfl 24 _ rfl (w.heap.size) rfl 24 (lkC l A c) (0, 0) _ (HP.out).raw11 Try.underlying24 rfl (by kernel_rfl) ?_)
      refine (HM.out _ (HW.out.under (Below.refl _ _))).mono ?_
      rintro e w1 ⟨rfl, hb1⟩
      obtain ⟨hp, hz, hw1⟩ := HC.out w1 hb1
      have HP1 := Lib.hid hp; have HZ1 := Lib.hid hz; have HW1 := Lib.hid hw1
      have HB1 := Lib.hid (HBWA.out.trans (hb1.mono HBWA.out.size))
      clear hp hz hw1 hb1 HP HC HM HBWA HW
      have m4 : w1.cell? ⟨w.heap.size, 4, none⟩ = some (.slice A l.ws.length c) := HP1.out.cell 4
      go_wp2_with fail
      refine (ofind_any A c l.ws l.ws.length t w1 HW1.out HMS.out.2 (by have := HMS.out.1; omega)).mono ?_
      rintro e w2 ⟨i, rfl, hpos, hb2⟩
      have HPOS := Lib.hid hpos
      have HP2 := Lib.hid (HP1.out.under hb2 HP1.out.lt); have HZ2 := Lib.hid (HZ1.out.under hb2 HZ1.out.lt); have HW2 := Lib.hid (HW1.out.under hb2); have HB2 := Lib.hid (HB1.out.trans (hb2.mono HB1.out.size))
      clear HP1 HZ1 HW1 HB1 hb2 m4 hpos
      rw [HBH.out]
      have hdel := posT_del HPOS.out HBH.out HMS.out.2
      rw [HWS2.out] at hdel
      have HDEL := Lib.hid hdel
      clear HBH HPOS hdel HWS2
      go_wp2_with (with_reducible refine wpList_load_row (o := ⟨some 22, _, _, _, _, _⟩) rfl 24 _ rfl (w.heap.size) rfl 24 (lkC l A c) (0, 0) _ (HP2.out).raw11 Try.underlying24 rfl (by kernel_rfl) ?_)
      refine (HCL.out _ HW2.out).mono ?_
      rintro e w3 ⟨A2, c2, rfl, ho3, hb3⟩
      have hp3 := HP2.out.under hb3 HP2.out.lt
      obtain ⟨w4, hw4⟩ : ∃ w4, w3.setRow (w.heap.size) (lkC l A2 c2) = w4 := ⟨_, rfl⟩
      have hg4 : w3.grownBy w4 (some (w.heap.size)) := by rw [← hw4]; exact only_row11 _ _ _
      have hp4 : Has w4 (w.heap.size) 24 (lkC l A2 c2) := by rw [← hw4]; exact has_row11 hp3 _
      have hz4 : Has w4 (w.heap.size + 1) 24 #[.int .i64 0, .int .i64 0, .int .i64 0, .int .i64 0, .slice none 0 0] := (HZ2.out.under hb3 HZ2.out.lt).grow hg4 (by simp)
      have hb4 : Below w.heap.size w w4 := below_only (HB2.out.trans (hb3.mono HB2.out.size)) hg4 (Nat.le_trans HB2.out.size hb3.size) (Nat.le_refl _)
      have hgl : w.heap.size + 1 < w2.heap.size := HZ2.out.lt
      have hs3 := hb3.size
      have hs4 := hg4.size
      have ho4 := ho3.move hg4 (by rintro ⟨⟨_, h⟩ | ⟨h, _⟩, _⟩ <;> omega) (fun e => by have := (ho3.lt e).1; omega)
      have ho4 := (ho4.wide (fun b (hb : Nw (fun b => P b ∧ b < w.heap.size) w2 w3 b ∧ Value.ownBlock (.slice A2 l.ws.length c2) ≠ some b) => (show ((P b ∧ b < w.heap.size) ∨ (w2.heap.size ≤ b ∧ b < w4.heap.size)) ∧ Value.ownBlock (.slice A2 l.ws.length c2) ≠ some b from ⟨hb.1.imp id fun h => ⟨h.1, by omega⟩, hb.2⟩)))
      have HP4 := Lib.hid hp4; have HZ4 := Lib.hid hz4; have HO4 := Lib.hid ho4; have HB4 := Lib.hid hb4; have HW4 := Lib.hid hw4; have HG4 := Lib.hid (And.intro hgl (Nat.le_trans hs3 hs4)); have HP3 := Lib.hid hp3
      clear hp3 hw4 hg4 hp4 hz4 hb4 hgl hs3 hs4 ho4 ho3 hb3 HP2 HZ2 HW2 HB2 HCL
      go_upto_region 7 with (with_reducible refine wpList_store_rowTo (o := ⟨none, _, _, _, _, _⟩) rfl 24 _ _ rfl rfl (w.heap.size) (lkC l A2 c2) rfl rfl 24 _ (HP3.out).raw11 (by kernel_rfl) (by kernel_rfl) (by kernel_rfl) ?_)
      rw [HW4.out]
      clear HW4 HP3
      have hn8 := HMS.out.1
      obtain ⟨l2, hl2, hn2, ho2, hp2⟩ := HO4.out
      have hdel := HDEL.out
      have hA2 : ∃ b, A2 = some ⟨b, 0, none⟩ := by
        cases A2 with
        | none =>
          rcases ho2.2 with ⟨_, h0⟩ | ⟨_, _, _, h', _⟩
          · omega
          · injection h' with h1; cases h1
        | some ad =>
          obtain ⟨b, _, e, _⟩ := own_has12 ho2
          exact ⟨b, by rw [e]⟩
      obtain ⟨b, rfl⟩ := hA2
      have HD := Lib.hid (odel_any w2.heap.size b l.ws.length c2 i (cellsW l2) w4 ho2 hdel.1 (by omega) (bodies_one12 hp2))
      have HL2 := Lib.hid hl2; have HN2 := Lib.hid hn2; have HPB := Lib.hid hp2; have HOW := Lib.hid ho2
      have m4 : w4.cell? ⟨w.heap.size, 4, none⟩ = some (.slice (some ⟨b, 0, none⟩) l.ws.length c2) := HP4.out.cell 4
      have hil : i < l.ws.length := hdel.1
      have hiw : wrap64 ((i : Int) + 1) = ((i + 1 : Nat) : Int) := by rw [show ((i : Int) + 1) = ((i + 1 : Nat) : Int) by omega]; exact IntWalk.wrap64_in _ (by omega)
      have hiw2 : IntKind.i64.wrap ((i : Int) + 1) = ((i + 1 : Nat) : Int) := by rw [IntKind.wrap_i64]; omega
      have hnat : ((i + 1 : Nat) : Int) = (i : Int) + 1 := by omega
      rw [hnat] at HD
      clear hl2 hn2 ho2 hp2 hdel HO4 hiw hiw2 hnat
      go_wp2_with fail
      refine HD.out.mono ?_
      rintro e w5 ⟨rfl, ho5, hg5⟩
      have HO5 := ho5; have hG := HG4.out
      have hg5 := hg5.out
      have hbl := HOW.out.lt b rfl
      have hp5 : Has w5 (w.heap.size) 24 (lkC l (some ⟨b, 0, none⟩) c2) := HP4.out.grow hg5 (by simp; omega)
      have hz5 : Has w5 (w.heap.size + 1) 24 #[.int .i64 0, .int .i64 0, .int .i64 0, .int .i64 0, .slice none 0 0] := HZ4.out.grow hg5 (by simp; omega)
      have hb5 : Below w.heap.size w w5 := below_only HB4.out hg5 HB4.out.size (by omega)
      have m5 : w5.cell? ⟨w.heap.size, 4, none⟩ = some (.slice (some ⟨b, 0, none⟩) l.ws.length c2) := hp5.cell 4
      have m5f := hp5.thaw 4
      have hdel := HDEL.out
      have hs5 := hg5.size
      have hlen2 : ws2.length = l.ws.length - 1 := by rw [hdel.2, List.length_append, List.length_take, List.length_drop]; omega
      have how : OwW (fun x => ((P x ∧ x < w.heap.size) ∨ (w2.heap.size ≤ x ∧ x < w5.heap.size)) ∧ Value.ownBlock (.slice (some ⟨b, 0, none⟩) (l.ws.length - 1) c2) ≠ some x) w2.heap.size w5 w5 (some ⟨b, 0, none⟩) (l.ws.length - 1) c2 ws2 := by
        refine ⟨l2.take i ++ l2.drop (i + 1), ?_, ?_, ?_, fun p hp => ?_⟩
        · rw [List.map_append, List.map_take, List.map_drop, HL2.out, hdel.2]
        · rw [List.length_append, List.length_take, List.length_drop, HN2.out]; omega
        · rw [cellsW_app, ← cellsW_take, ← cellsW_drop]; exact HO5.out
        · have hpm : p ∈ l2 := by
            rcases List.mem_append.1 hp with h | h
            · exact List.mem_of_mem_take h
            · exact List.mem_of_mem_drop h
          refine ((HPB.out p hpm).grown hg5 (fun h => h.2 rfl)).wide (fun x hx => ⟨hx.1.imp id fun h => ⟨h.1, by omega⟩, hx.2⟩)
      obtain ⟨w6, hw6⟩ : ∃ w6, w5.setCell ⟨w.heap.size, 4, none⟩ (.slice (some ⟨b, 0, none⟩) (l.ws.length - 1) c2) = w6 := ⟨_, rfl⟩
      have hg6 : w5.grownBy w6 (some (w.heap.size)) := by rw [← hw6]; exact only_store (only_refl _ _) rfl _
      have hp6 : Has w6 (w.heap.size) 24 #[.int .i64 l.period, .int .i64 l.most, .int .i64 l.quiet, .int .i64 l.heard, .slice (some ⟨b, 0, none⟩) (l.ws.length - 1) c2] := by rw [← hw6]; exact (hp5.stored 4 _).is11 (by kernel_rfl)
      have hz6 := hz5.grow hg6 (by simp)
      have hb6 := below_only hb5 hg6 hb5.size (Nat.le_refl _)
      have hs6 := hg6.size
      have how6 := (how.move hg6 (by rintro ⟨⟨_, h⟩ | ⟨h, _⟩, _⟩ <;> omega) (fun e => by have := (how.lt e).1; omega)).wide (fun x hx => (show ((P x ∧ x < w.heap.size) ∨ (w2.heap.size ≤ x ∧ x < w6.heap.size)) ∧ Value.ownBlock (.slice (some ⟨b, 0, none⟩) (l.ws.length - 1) c2) ≠ some x from ⟨hx.1.imp id fun h => ⟨h.1, by omega⟩, hx.2⟩))
      have HP6 := Lib.hid hp6; have HW6 := Lib.hid hw6
      clear hp6 hw6 hg6 how hp5 hz5 hb5 hg5
      have hg5 := only_row11 w6 (w.heap.size + 1) #[.int .i64 l.period, .int .i64 l.most, .int .i64 l.quiet, .int .i64 l.heard, .slice (some ⟨b, 0, none⟩) (l.ws.length - 1) c2]
      have hG := HG4.out
      have ho5 := how6.move hg5 (by rintro ⟨⟨_, h⟩ | ⟨h, _⟩, _⟩ <;> omega) (fun e => by have := (how6.lt e).1; omega)
      have hb5 := below_row (g := w.heap.size + 1) hb6 (by omega) #[.int .i64 l.period, .int .i64 l.most, .int .i64 l.quiet, .int .i64 l.heard, .slice (some ⟨b, 0, none⟩) (l.ws.length - 1) c2]
      have hb5s : (w6.setRow (w.heap.size + 1) #[.int .i64 l.period, .int .i64 l.most, .int .i64 l.quiet, .int .i64 l.heard, .slice (some ⟨b, 0, none⟩) (l.ws.length - 1) c2]).heap.size = w6.heap.size := by simp
      have HS := Lib.hid (ho5.toWs (Q' := Nw P w (w6.setRow (w.heap.size + 1) #[.int .i64 l.period, .int .i64 l.most, .int .i64 l.quiet, .int .i64 l.heard, .slice (some ⟨b, 0, none⟩) (l.ws.length - 1) c2])) (fun b hb => hb.1.elim (fun h => .inl h.1) (fun h => .inr ⟨by omega, by omega⟩)) (fun b h h2 => .inr ⟨by omega, h2⟩))
      have HR := Lib.hid (has_row11 hz6 #[.int .i64 l.period, .int .i64 l.most, .int .i64 l.quiet, .int .i64 l.heard, .slice (some ⟨b, 0, none⟩) (l.ws.length - 1) c2])
      have HZL := Lib.hid hz6; have HBF := Lib.hid hb5
      clear hg5 ho5 hb5 hb5s hG
      have HLEN := Lib.hid hlen2
      clear hz6 hb6 how6 hs5 hs6 hdel hlen2 hG hbl HD m4 HO5 ho5
      go_upto_region 8 with fail
      rw [HW6.out]
      clear HW6 m5 m5f
      go_wp2_with (first | (with_reducible refine wpList_load_row (o := ⟨some 31, _, _, _, _, _⟩) rfl 24 _ rfl (w.heap.size) rfl 24 #[.int .i64 l.period, .int .i64 l.most, .int .i64 l.quiet, .int .i64 l.heard, .slice (some ⟨b, 0, none⟩) (l.ws.length - 1) c2] (0, 0) _ (HP6.out).raw11 Try.underlying24 rfl (by kernel_rfl) ?_) | (with_reducible refine wpList_store_rowTo (o := ⟨none, _, _, _, _, _⟩) rfl 24 _ _ rfl rfl (w.heap.size + 1) #[.int .i64 l.period, .int .i64 l.most, .int .i64 l.quiet, .int .i64 l.heard, .slice (some ⟨b, 0, none⟩) (l.ws.length - 1) c2] rfl rfl 24 _ (HZL.out).raw11 (by kernel_rfl) (by kernel_rfl) (by kernel_rfl) ?_))
      refine bodyPost_ret (results_row_tmp11 rfl _ _ (w.heap.size + 1) 24 _ _ rfl HR.out Try.underlying24 rfl (by kernel_rfl)) rfl ?_
      exact ⟨some ⟨b, 0, none⟩, c2, by unfold lkC; dsimp only; rw [HLEN.out]; rfl, by rw [HLEN.out]; exact HS.out, HBF.out⟩
end Go.Proofs.Ytbohoejikihnfaa
