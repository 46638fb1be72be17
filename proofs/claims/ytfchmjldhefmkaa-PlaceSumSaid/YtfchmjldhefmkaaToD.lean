/-
  package topo as landed: Route, repeatsEdge, haveBals.
-/
import Derived.Test.YtfchmjldhefmkaaToC

import Derived.Test.YtfchmjldhefmkaaTpRefE

namespace Go.Proofs.Ytfchmjldhefmkaa

open Go.RowKit

open Go.Great

theorem stc_one13 (l : List St3) : ∀ u ∈ l.flatMap stC, u.oneCell' = true := by
  intro u hu
  obtain ⟨s, _, h⟩ := List.mem_flatMap.1 hu
  unfold stC at h
  rcases List.mem_cons.1 h with rfl | h
  · rfl
  · rcases List.mem_cons.1 h with rfl | h
    · rfl
    · cases h
/-- Has an edge come twice: the first i steps looked at. -/
def repB (path : List St3) (i : Nat) : Bool := match path[i]? with | none => false | some s => (path.take i).any fun x => x.edge == s.edge
theorem rep_twice {path : List St3} : (∃ i, i < path.length ∧ repB path i = true) ↔ twiceB path = true := by
  unfold twiceB
  rw [decide_eq_true_eq, List.nodup_iff_pairwise_ne, List.pairwise_iff_getElem]
  constructor
  · rintro ⟨i, hi, h⟩ hn
    unfold repB at h
    rw [List.getElem?_eq_getElem hi] at h
    simp only [List.any_eq_true, beq_iff_eq] at h
    obtain ⟨x, hx, e⟩ := h
    obtain ⟨m, hm, rfl⟩ := List.getElem_of_mem hx
    rw [List.length_take] at hm
    refine hn m i (by rw [List.length_map]; omega) (by rw [List.length_map]; exact hi) (by omega) ?_
    rw [List.getElem_map, List.getElem_map]
    rw [List.getElem_take] at e
    exact e
  · intro hn
    refine Classical.byContradiction fun hc => hn fun a b ha hb hab e => hc ?_
    rw [List.length_map] at ha hb
    refine ⟨b, hb, ?_⟩
    unfold repB
    rw [List.getElem?_eq_getElem hb]
    simp only [List.any_eq_true, beq_iff_eq]
    refine ⟨path[a], List.mem_of_getElem? (i := a) (by rw [List.getElem?_take_of_lt hab]; exact List.getElem?_eq_getElem ha), ?_⟩
    simpa using e

set_option maxRecDepth 100000 in
set_option maxHeartbeats 8000000 in
theorem otrep_any (path : List St3) (A : Option Addr) (n c : Nat) (w : World) (hp : SlO stC 2 w A n c path) (hn : n ≤ 1048576) (hc : n ≤ c) :
    Calls Try.prog 74 #[.slice A n c] w fun e w' => e = .returned (.bool (twiceB path)) ∧ Below w.heap.size w w' := by
  have HS := Lib.hid hp
  have HN : Hid (path.length = n) := Lib.hid hp.1
  clear hp
  obtain ⟨Q, hQ⟩ : ∃ Q, twiceB path = Q := ⟨_, rfl⟩
  have HQ := Lib.hid hQ
  rw [hQ]
  clear hQ
  go_enter Try.func74, Try.ntmps74
  go_wp2
  go_loopg [7] n (fun kk v wl => ∃ i : Nat, i ≤ n ∧ n - i ≤ kk ∧ v = .int .i64 i ∧ Hid (∀ m, m < i → repB path m = false) ∧ Hid (Below w.heap.size w wl))
  case atStart => exact ⟨0, by omega, by omega, rfl, Lib.hid fun m h => absurd h (by omega), Lib.hid (Below.refl _ _)⟩
  case round =>
    obtain ⟨i, hi, hik, rfl, HNO, HBL⟩ := hrel
    by_cases hlt : i < n
    rotate_left
    · have y1 : ¬ (i : Int) < n := by omega
      have HF : Hid (Q = false) := Lib.hid (by
        rw [← HQ.out]
        cases hq : twiceB path with
        | false => rfl
        | true =>
          obtain ⟨m, hm, h⟩ := rep_twice.2 hq
          rw [HNO.out m (by have := HN.out; omega)] at h
          cases h)
      go_wp2
      go_ret
      exact ⟨by rw [HF.out]; rfl, HBL.out⟩
    obtain ⟨x, hx⟩ : ∃ x, path[i]? = some x := ⟨_, List.getElem?_eq_getElem (by rw [HN.out]; omega)⟩
    obtain ⟨bk, off, rfl, d0, d1⟩ := (HS.out.under HBL.out).step hx
    have y0 : (0 : Int) ≤ i := by omega
    have y1 : (i : Int) < n := by omega
    have y2 : (i : Int) ≤ c := by omega
    obtain ⟨q, hq⟩ : ∃ q, repB path i = q := ⟨_, rfl⟩
    have hqe : ((path.take i).any fun y => y.edge == x.edge) = q := by rw [← hq]; unfold repB; rw [hx]
    have HQI := Lib.hid hq
    go_upto_region 4 with fail
    obtain ⟨wb, hwb⟩ : ∃ wb, wr.alloc (.cells #[.int .i64 x.edge, .bool x.rev] 45) = wb := ⟨_, rfl⟩
    rw [hwb]
    have hbb : Below wr.heap.size wr wb := by rw [← hwb]; exact (Below.refl _ _).alloc (Nat.le_refl _) _
    have hH : Has wb wr.heap.size 45 #[.int .i64 x.edge, .bool x.rev] := by rw [← hwb]; exact Has.made _ _ _
    have HBB := Lib.hid (HBL.out.trans (hbb.mono HBL.out.size))
    have hc0 : wb.cell? ⟨wr.heap.size, 0, none⟩ = some (.int .i64 x.edge) := hH.cell 0
    have HC := Lib.hid (oct_re (fun y => y.edge == x.edge) (path.take i) (some ⟨bk, off, none⟩) i c wr.heap.size wb ((HS.out.under HBB.out).take (fun _ => rfl) (by simp) hi) (by omega) (Lib.hid fun y W hW => otre_any y x.edge wr.heap.size W ((hW.cell (cell_block hc0)).trans hc0)))
    rw [hqe] at HC
    clear hwb hbb hH hc0 d0 d1 hqe hx hq
    cases q with
    | true =>
      have HF : Hid (Q = true) := Lib.hid (by rw [← HQ.out]; exact rep_twice.1 ⟨i, by have := HN.out; omega, HQI.out⟩)
      go_wp2_with fail
      refine HC.out.mono ?_
      rintro e w1 ⟨rfl, hb1⟩
      have HB1 := Lib.hid (HBB.out.trans (hb1.mono HBB.out.size))
      clear hb1 HNO
      go_wp2
      go_ret
      exact ⟨by rw [HF.out]; rfl, HB1.out⟩
    | false =>
      go_wp2_with fail
      refine HC.out.mono ?_
      rintro e w1 ⟨rfl, hb1⟩
      have HB1 := Lib.hid (HBB.out.trans (hb1.mono HBB.out.size))
      have HN2 : Hid (∀ m, m < i + 1 → repB path m = false) := Lib.hid fun m hm => by
        by_cases h : m = i
        · rw [h]; exact HQI.out
        · exact HNO.out m (by omega)
      clear hb1 HNO
      go_wp2
      go_roundg (gk - 1)
      case measure => omega
      case rel => exact ⟨i + 1, by omega, by omega, by go_num, HN2, HB1⟩

set_option maxRecDepth 100000 in
set_option maxHeartbeats 8000000 in
theorem othave_any (t : Tp3) (a : TpA) (path : List St3) (A : Option Addr) (n c : Nat) (w : World) (ht : TopR w t a) (hb : t.bals.length ≤ 100) (hp : SlO stC 2 w A n c path) (hn : n ≤ 1048576) :
    Calls Try.prog 75 #[.agg (tpC t a), .slice A n c] w fun e w' => e = .returned (.bool (path.all (hasBal t))) ∧ Below w.heap.size w w' := by
  obtain ⟨wa, hwa⟩ : ∃ wa, w.alloc (.cells (tpC t a) 27) = wa := ⟨_, rfl⟩
  have hbwa : Below w.heap.size w wa := by rw [← hwa]; exact (Below.refl _ _).alloc (Nat.le_refl _) _
  have h0 : Has wa (w.heap.size) 27 (tpC t a) := by rw [← hwa]; exact (Has.made _ _ _)
  have HWA := Lib.hid hwa; have HBWA := Lib.hid hbwa
  have HS := Lib.hid (hp.under hbwa)
  have HT := Lib.hid (ht.under hbwa)
  have HN : Hid (path.length = n) := Lib.hid hp.1
  have HP := Lib.hid h0
  have KC : Hid (∀ W, Below wa.heap.size wa W → W.cell? ⟨w.heap.size, 2, none⟩ = some (.slice a.ab t.bals.length a.cb)) := Lib.hid fun W hW => by
    have c2 : wa.cell? ⟨w.heap.size, 2, none⟩ = some (.slice a.ab t.bals.length a.cb) := h0.cell 2
    exact (hW.cell (cell_block c2)).trans c2
  clear hwa hbwa h0 ht hp
  obtain ⟨Q, hQ⟩ : ∃ Q, path.all (hasBal t) = Q := ⟨_, rfl⟩
  have HQ := Lib.hid hQ
  rw [hQ]
  clear hQ
  unfold tpC at HWA
  unfold tpC
  go_enter Try.func75, Try.ntmps75
  go_upto_region 1 with fail
  rw [HWA.out]
  clear HWA
  go_wp2
  go_loopg [9] n (fun kk v wl => ∃ i : Nat, i ≤ n ∧ n - i ≤ kk ∧ v = .int .i64 i ∧ Hid (∀ m s, m < i → path[m]? = some s → hasBal t s = true) ∧ Hid (Below wa.heap.size wa wl))
  case atStart => exact ⟨0, by omega, by omega, rfl, Lib.hid fun m s h => absurd h (by omega), Lib.hid (Below.refl _ _)⟩
  case round =>
    obtain ⟨i, hi, hik, rfl, HNO, HBL⟩ := hrel
    by_cases hlt : i < n
    rotate_left
    · have y1 : ¬ (i : Int) < n := by omega
      have HF : Hid (Q = true) := Lib.hid (by
        rw [← HQ.out, List.all_eq_true]
        intro s hs
        obtain ⟨m, hm, rfl⟩ := List.getElem_of_mem hs
        exact HNO.out m _ (by have := HN.out; omega) (List.getElem?_eq_getElem hm))
      have HBF := Lib.hid (HBWA.out.trans (HBL.out.mono HBWA.out.size))
      go_wp2
      go_ret
      exact ⟨by rw [HF.out]; rfl, HBF.out⟩
    obtain ⟨x, hx⟩ : ∃ x, path[i]? = some x := ⟨_, List.getElem?_eq_getElem (by rw [HN.out]; omega)⟩
    obtain ⟨bk, off, rfl, d0, d1⟩ := (HS.out.under HBL.out).step hx
    have HX := Lib.hid hx
    have y0 : (0 : Int) ≤ i := by omega
    have y1 : (i : Int) < n := by omega
    obtain ⟨q, hq⟩ : ∃ q, hasBal t x = q := ⟨_, rfl⟩
    have hqe : (t.bals.any fun b => b.edge == x.edge) = q := hq
    have HQI := Lib.hid hq
    go_upto_region 4 with fail
    obtain ⟨wb, hwb⟩ : ∃ wb, wr.alloc (.cells #[.int .i64 x.edge, .bool x.rev] 45) = wb := ⟨_, rfl⟩
    rw [hwb]
    have hbb : Below wr.heap.size wr wb := by rw [← hwb]; exact (Below.refl _ _).alloc (Nat.le_refl _) _
    have hH : Has wb wr.heap.size 45 #[.int .i64 x.edge, .bool x.rev] := by rw [← hwb]; exact Has.made _ _ _
    have HBB := Lib.hid (HBL.out.trans (hbb.mono HBL.out.size))
    have hc0 : wb.cell? ⟨wr.heap.size, 0, none⟩ = some (.int .i64 x.edge) := hH.cell 0
    have c2 := KC.out wb HBB.out
    have HC := Lib.hid (oct_hb (fun b => b.edge == x.edge) t.bals a.ab t.bals.length a.cb wr.heap.size wb (HT.out.under HBB.out).b (by omega) (Lib.hid fun y W hW => othb_any y x.edge wr.heap.size W ((hW.cell (cell_block hc0)).trans hc0)))
    rw [hqe] at HC
    clear hwb hbb hH hc0 d0 d1 hqe hx hq
    generalize t.bals.length = mb at *
    cases q with
    | true =>
      go_wp2_with fail
      refine HC.out.mono ?_
      rintro e w1 ⟨rfl, hb1⟩
      have HB1 := Lib.hid (HBB.out.trans (hb1.mono HBB.out.size))
      have HN2 : Hid (∀ m s, m < i + 1 → path[m]? = some s → hasBal t s = true) := Lib.hid fun m s hm hs => by
        by_cases h : m = i
        · subst h; rw [HX.out] at hs; cases hs; exact HQI.out
        · exact HNO.out m s (by omega) hs
      clear hb1 HNO c2
      go_wp2
      go_roundg (gk - 1)
      case measure => omega
      case rel => exact ⟨i + 1, by omega, by omega, by go_num, HN2, HB1⟩
    | false =>
      have HF : Hid (Q = false) := Lib.hid (by rw [← HQ.out, List.all_eq_false]; exact ⟨x, List.mem_of_getElem? HX.out, by rw [HQI.out]; decide⟩)
      go_wp2_with fail
      refine HC.out.mono ?_
      rintro e w1 ⟨rfl, hb1⟩
      have HB1 := Lib.hid (HBWA.out.trans ((HBB.out.trans (hb1.mono HBB.out.size)).mono HBWA.out.size))
      clear hb1 HNO c2
      go_wp2
      go_ret
      exact ⟨by rw [HF.out]; rfl, HB1.out⟩

end Go.Proofs.Ytfchmjldhefmkaa
