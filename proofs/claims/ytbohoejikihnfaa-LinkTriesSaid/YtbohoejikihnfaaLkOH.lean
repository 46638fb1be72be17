/-
  package link as landed: clone.
-/
import Derived.Test.YtbohoejikihnfaaLkOC

import Derived.Test.YtbohoejikihnfaaLkOE

namespace Go.Proofs.Ytbohoejikihnfaa

open Go.RowKit

open Go.Great

theorem BodyR.grown {P : Nat → Prop} {W W' : World} {v : Value} {xs : List Nat} {g : Nat} (h : BodyR P W v xs) (hg : W.grownBy W' (some g)) (hn : ¬ P g) : BodyR P W' v xs := by
  obtain ⟨A, c, e, hs, h8, hp⟩ := h
  refine ⟨A, c, e, ⟨hs.1, hs.2.1, fun ad ha j u hu => ?_⟩, h8, hp⟩
  have h0 : 0 < xs.length := by
    have h1 := (List.getElem?_eq_some_iff.1 hu).1
    rw [u8s_length] at h1
    omega
  exact hg.cell (hs.2.2 ad ha j u hu) (fun e' => hn (by
    have := hp ad ha h0
    rw [add_block11] at e'
    injection e' with e'
    rw [← e']
    exact this))
theorem cellsW_set {l : List (W0 × Value)} {j : Nat} {x : W0} {v0 v : Value} (h : l[j]? = some (x, v0)) : (cellsW l).set (j * 4 + 3) v = cellsW (l.set j (x, v)) := by
  induction l generalizing j with
  | nil => simp at h
  | cons y r ih =>
    show (wtC y ++ cellsW r).set (j * 4 + 3) v = _
    cases j with
    | zero =>
      simp only [List.getElem?_cons_zero, Option.some.injEq] at h
      subst h
      rfl
    | succ i =>
      simp only [List.getElem?_cons_succ] at h
      rw [List.set_append, if_neg (by show ¬ (i + 1) * 4 + 3 < 4; omega)]
      show wtC y ++ (cellsW r).set ((i + 1) * 4 + 3 - 4) v = wtC y ++ cellsW (r.set i (x, v))
      rw [show (i + 1) * 4 + 3 - 4 = i * 4 + 3 by omega, ih h]
theorem cellsW_ones {l : List (W0 × Value)} (h : ∀ p ∈ l, p.2.oneCell' = true) : ∀ u ∈ cellsW l, u.oneCell' = true := fun u hu => by
  obtain ⟨p, hp, hu⟩ := List.mem_flatMap.1 hu
  simp only [wtC, List.mem_cons, List.not_mem_nil, or_false] at hu
  rcases hu with rfl | rfl | rfl | rfl
  · rfl
  · rfl
  · rfl
  · exact h p hp
theorem BodyR.one {P : Nat → Prop} {w : World} {v : Value} {xs : List Nat} (h : BodyR P w v xs) : v.oneCell' = true := by
  obtain ⟨A, c, rfl, _⟩ := h
  rfl
theorem BodyR.low {P : Nat → Prop} {w : World} {v : Value} {xs : List Nat} (h : BodyR P w v xs) : BodyR (fun b => P b ∧ b < w.heap.size) w v xs := by
  obtain ⟨A, c, e, hs, h8, hp⟩ := h
  refine ⟨A, c, e, hs, h8, fun ad ha h0 => ⟨hp ad ha h0, ?_⟩⟩
  have := hs.2.2 ad ha 0 _ (List.getElem?_eq_getElem (by rw [u8s_length]; exact h0))
  have := cell_block this
  rwa [add_block11] at this
/-- A body in memory of its own. -/
theorem own_mono12 {w : World} {base base' : Nat} {e : TypeId} {size n : Nat} {v : Value} {xs : List Value} (h : w.ownsRow base e size v n xs) (hb : base' ≤ base) : w.ownsRow base' e size v n xs := by
  refine ⟨h.1, h.2.imp id ?_⟩
  rintro ⟨g, cap, cur, e1, h2, h3⟩
  exact ⟨g, cap, cur, e1, Nat.le_trans hb h2, h3⟩
theorem BodyR.own {w' : World} {A : Option Addr} {n c base : Nat} {xs : List Nat} (h : w'.ownsRow base 5 1 (.slice A n c) n (u8s xs)) (h8 : ∀ x ∈ xs, x < 256) : BodyR (fun b => base ≤ b ∧ b < w'.heap.size) w' (.slice A n c) xs := by
  have hn : xs.length = n := by have := h.1; rw [u8s_length] at this; omega
  subst hn
  exact ⟨A, c, rfl, Sl.of_own h, h8, fun ad ha _ => own_block12 h ha⟩

/-- What clone leaves. -/
def CloneP (P : Nat → Prop) (l : L0) (w : World) (e : Ending) (w' : World) : Prop := ∃ A' c', e = .returned (.agg (lkC l A' c')) ∧ OwW (fun b => Nw P w w' b ∧ Value.ownBlock (.slice A' l.ws.length c') ≠ some b) w.heap.size w' w' A' l.ws.length c' l.ws ∧ Below w.heap.size w w'

set_option maxRecDepth 100000 in
set_option maxHeartbeats 8000000 in
theorem oclone_any {P : Nat → Prop} (l : L0) (A : Option Addr) (c : Nat) (w : World) (hw : WsR P w A l.ws.length c l.ws) (hbig : l.ws.length ≤ 100000) (hbod : ∀ x ∈ l.ws, x.body.length ≤ 100000) :
    Calls Try.prog 29 #[.agg (lkC l A c)] w (CloneP P l w) := by
  unfold CloneP
  obtain ⟨wa, hwa⟩ : ∃ wa, (w.alloc (.cells (lkC l A c) 24)).alloc (.cells lkZ 24) = wa := ⟨_, rfl⟩
  have hbwa : Below w.heap.size w wa := by rw [← hwa]; exact ((Below.refl _ _).alloc (Nat.le_refl _) _).alloc (by simp) _
  have h0 : Has wa w.heap.size 24 (lkC l A c) := by rw [← hwa]; exact (Has.made _ _ _).beside _
  have h1 : Has wa (w.heap.size + 1) 24 lkZ := by rw [← hwa]; exact has_at11 (by simp)
  have hsz : wa.heap.size = w.heap.size + 2 := by rw [← hwa]; simp
  have HWA := Lib.hid hwa; have HBWA := Lib.hid hbwa; have H0 := Lib.hid h0; have H1 := Lib.hid h1; have HSZ := Lib.hid hsz
  obtain ⟨l1, hl1, hn1, hs1, hp1⟩ := hw
  have c4 : wa.cell? ⟨w.heap.size, 4, none⟩ = some (.slice A l.ws.length c) := h0.cell 4
  have HS1 := Lib.hid (hs1.1.under hbwa)
  have HK := Lib.hid (oclonew_any A l.ws.length c (cellsW l1) wa (hs1.1.under hbwa) (cellsW_ones fun p hp => (hp1 p hp).one) hbig)
  have HP1 := Lib.hid hp1; have HL1 := Lib.hid hl1; have HN1 := Lib.hid hn1; have HBO := Lib.hid hbod
  clear hwa hbwa h0 h1 hsz hl1 hs1 hp1 hbod
  obtain ⟨p, m, q, h, ws⟩ := l
  unfold lkC at *
  dsimp only at *
  obtain ⟨n, hn⟩ : ∃ n, ws.length = n := ⟨_, rfl⟩
  rw [hn] at HWA H0 HS1 HK c4 HN1 hbig
  simp only [hn]
  have HN := Lib.hid hn
  clear hn hn1
  unfold lkZ at HWA H1
  go_enter Try.func29, Try.ntmps29
  go_upto_region 1 with fail
  rw [HWA.out]
  clear HWA
  go_wp2_with fail
  refine HK.out.mono ?_
  rintro e w1 ⟨A1, c1, rfl, ho1, hb1⟩
  have HO1 := Lib.hid ho1.out; have HB1 := Lib.hid hb1.out
  have h01 : Has w1 w.heap.size 24 _ := H0.out.under hb1.out H0.out.lt
  have h11 : Has w1 (w.heap.size + 1) 24 _ := H1.out.under hb1.out H1.out.lt
  have b4 : w1.cell? ⟨w.heap.size, 4, none⟩ = some (.slice A n c) := h01.cell 4
  have b4f : w1.frozen? ⟨w.heap.size, 4, none⟩ = false := h01.thaw 4
  have H01 := Lib.hid h01; have H11 := Lib.hid h11
  have HNE : Hid (Value.ownBlock (.slice A1 n c1) ≠ some w.heap.size ∧ Value.ownBlock (.slice A1 n c1) ≠ some (w.heap.size + 1)) := Lib.hid (by
    have h9 := ho1.out.lt
    have h8 := HSZ.out
    exact ⟨fun e => by have := (h9 _ e).1; omega, fun e => by have := (h9 _ e).1; omega⟩)
  obtain ⟨W2, hW2⟩ : ∃ W2, w1.setCell ⟨w.heap.size, 4, none⟩ (.slice A1 n c1) = W2 := ⟨_, rfl⟩
  have HW2 := Lib.hid hW2
  have h02 : Has W2 w.heap.size 24 #[.int .i64 p, .int .i64 m, .int .i64 q, .int .i64 h, .slice A1 n c1] := by rw [← hW2]; exact h01.stored 4 _
  have h12 : Has W2 (w.heap.size + 1) 24 #[.int .i64 0, .int .i64 0, .int .i64 0, .int .i64 0, .slice none 0 0] := by rw [← hW2]; exact h11.apart (by simp) _
  have hg12 : w1.grownBy W2 (some w.heap.size) := by rw [← hW2]; exact only_store (only_refl _ _) rfl _
  have HO2 := Lib.hid (own_keep ho1.out hg12 HNE.out.1)
  have HB2 : Hid (Below w.heap.size w W2) := Lib.hid (below_only (HBWA.out.trans (hb1.out.mono HBWA.out.size)) hg12 (Nat.le_trans HBWA.out.size hb1.out.size) (Nat.le_refl _))
  have d4 : W2.cell? ⟨w.heap.size, 4, none⟩ = some (.slice A1 n c1) := h02.cell 4
  have H02 := Lib.hid h02; have H12 := Lib.hid h12
  have x0 : (0 : Int) ≤ n := by omega
  clear h01 h11 h02 h12 ho1 hb1 HK H0 H1 c4 hW2 hg12 HO1 H01 H11
  go_upto_region 2 with fail
  rw [HW2.out]
  clear HW2 b4 b4f HB1 HS1
  go_wp2
  go_loopg [12] n (fun kk v wl => ∃ (j : Nat) (l : List (W0 × Value)), j ≤ n ∧ n - j ≤ kk ∧ v = .int .i64 j ∧ Hid (l.map (·.1) = ws) ∧ Hid (l.length = n) ∧ Hid (wl.ownsRow wa.heap.size 48 4 (.slice A1 n c1) n (cellsW l)) ∧
    Hid (∀ p ∈ l, BodyR (fun b => (P b ∧ b < w.heap.size) ∨ (wa.heap.size ≤ b ∧ b < wl.heap.size ∧ Value.ownBlock (.slice A1 n c1) ≠ some b)) wl p.2 p.1.body) ∧ Hid (Below w.heap.size w wl) ∧
    Hid (Has wl w.heap.size 24 #[.int .i64 p, .int .i64 m, .int .i64 q, .int .i64 h, .slice A1 n c1]) ∧ Hid (Has wl (w.heap.size + 1) 24 #[.int .i64 0, .int .i64 0, .int .i64 0, .int .i64 0, .slice none 0 0]))
  case atStart => exact ⟨0, l1, by omega, by omega, rfl, HL1, HN1, HO2, Lib.hid fun p hp => ((HP1.out p hp).low.under HB2.out).wide fun _ => .inl, HB2, H02, H12⟩
  case round =>
    obtain ⟨j, l, hj, hjk, rfl, HL, HLN, HO, HP, HB, H0, H1⟩ := hrel
    by_cases hlt : j < n
    rotate_left
    · have y1 : ¬ (j : Int) < n := by omega
      have hl0 : wr.cell? ⟨w.heap.size, 0, none⟩ = some (.int .i64 p) := H0.out.cell 0
      have hl1 : wr.cell? ⟨w.heap.size, 1, none⟩ = some (.int .i64 m) := H0.out.cell 1
      have hl2 : wr.cell? ⟨w.heap.size, 2, none⟩ = some (.int .i64 q) := H0.out.cell 2
      have hl3 : wr.cell? ⟨w.heap.size, 3, none⟩ = some (.int .i64 h) := H0.out.cell 3
      have hl4 : wr.cell? ⟨w.heap.size, 4, none⟩ = some (.slice A1 n c1) := H0.out.cell 4
      obtain ⟨W3, hW3⟩ : ∃ W3, wr.setRow (w.heap.size + 1) #[.int .i64 p, .int .i64 m, .int .i64 q, .int .i64 h, .slice A1 n c1] = W3 := ⟨_, rfl⟩
      have HW3 := Lib.hid hW3
      have hg3 : wr.grownBy W3 (some (w.heap.size + 1)) := by rw [← hW3]; exact only_row11 _ _ _
      have H13 : Hid (Has W3 (w.heap.size + 1) 24 #[.int .i64 p, .int .i64 m, .int .i64 q, .int .i64 h, .slice A1 n c1]) := Lib.hid (by rw [← hW3]; exact has_row11 H1.out _)
      have HB3 : Hid (Below w.heap.size w W3) := Lib.hid (below_only HB.out hg3 HB.out.size (by omega))
      have HF : Hid (OwW (fun b => Nw P w W3 b ∧ Value.ownBlock (.slice A1 n c1) ≠ some b) w.heap.size W3 W3 A1 n c1 ws) := Lib.hid ⟨l, HL.out, HLN.out, own_mono12 (own_keep HO.out hg3 HNE.out.2) HBWA.out.size, fun p hp => by
        have hsz := HSZ.out
        have hg3s := hg3.size
        refine ((HP.out p hp).grown hg3 ?_).wide ?_
        · rintro (⟨_, h2⟩ | ⟨h2, _⟩) <;> omega
        · rintro b (⟨h2, h2b⟩ | ⟨h2, h3, h3b⟩)
          · exact ⟨.inl h2, fun e => by have := (HO.out.lt b e).1; omega⟩
          · exact ⟨.inr ⟨by omega, by omega⟩, h3b⟩⟩
      clear HO2 HP HO HB hW3 hg3 HP1 d4
      go_wp2_with (first | (with_reducible refine wpList_load_row (o := ⟨some 26, _, _, _, _, _⟩) rfl 24 _ rfl (w.heap.size) rfl 24 #[.int .i64 p, .int .i64 m, .int .i64 q, .int .i64 h, .slice A1 n c1] (0, 0) _ (H0.out).raw11 Try.underlying24 rfl (by kernel_rfl) ?_) | (with_reducible refine wpList_store_rowTo (o := ⟨none, _, _, _, _, _⟩) rfl 24 _ _ rfl rfl (w.heap.size + 1) #[.int .i64 p, .int .i64 m, .int .i64 q, .int .i64 h, .slice A1 n c1] rfl rfl 24 _ (H1.out).raw11 (by kernel_rfl) (by kernel_rfl) (by kernel_rfl) ?_))
      rw [HW3.out]
      clear HW3
      refine bodyPost_ret (results_cell_row rfl _ _ (w.heap.size + 1) 24 _ _ _ rfl H13.out Try.underlying24 rfl (by kernel_rfl)) rfl ?_
      exact ⟨A1, c1, rfl, HF.out, HB3.out⟩
    obtain ⟨x, hx⟩ : ∃ x, ws[j]? = some x := ⟨_, List.getElem?_eq_getElem (by rw [HN.out]; omega)⟩
    obtain ⟨v0, hv0⟩ : ∃ v0, l[j]? = some (x, v0) := by
      have hlj : j < l.length := by rw [HLN.out]; exact hlt
      have h2 := hx
      rw [← HL.out, List.getElem?_map, List.getElem?_eq_getElem hlj] at h2
      simp only [Option.map_some, Option.some.injEq] at h2
      exact ⟨l[j].2, by rw [List.getElem?_eq_getElem hlj, ← h2]⟩
    have HLJ := Lib.hid hv0
    have HX := Lib.hid hx
    have hbody := HP.out _ (List.mem_of_getElem? hv0)
    obtain ⟨BA, bc, hv0e, hsb, h8b, _⟩ := hbody
    dsimp only at hv0e hsb h8b
    cases A1 with
    | none =>
      exfalso
      rcases HO.out.2 with ⟨_, h0⟩ | ⟨_, _, _, h', _⟩
      · omega
      · injection h' with h1; cases h1
    | some ad =>
    obtain ⟨gr, cur, rfl, hgr, _⟩ := own_has12 HO.out
    have hjl : j < l.length := by rw [HLN.out]; exact hlt
    have hlj : l[j] = (x, v0) := by
      obtain ⟨_, e⟩ := List.getElem?_eq_some_iff.1 hv0
      exact e
    have hcj : ∀ k, k < 4 → ∀ u, (wtC (x, v0))[k]? = some u → wr.cell? ⟨gr, j * 4 + k, none⟩ = some u := fun k hk u hu => by
      rw [HO.out.cellAt (j * 4 + k) (by omega), cellsW_at hjl hk, hlj]
      exact hu
    have d0 : wr.cell? ⟨gr, j * 4, none⟩ = some (.int .i64 x.t) := hcj 0 (by omega) _ rfl
    have d1 : wr.cell? ⟨gr, j * 4 + 1, none⟩ = some (.int .i64 x.due) := hcj 1 (by omega) _ rfl
    have d2 : wr.cell? ⟨gr, j * 4 + 2, none⟩ = some (.int .i64 x.tries) := hcj 2 (by omega) _ rfl
    have d3 : wr.cell? ⟨gr, j * 4 + 3, none⟩ = some v0 := hcj 3 (by omega) _ rfl
    have HV0 : Hid ((cellsW l)[j * 4 + 3]? = some v0) := Lib.hid (by rw [cellsW_at hjl (by omega), hlj]; rfl)
    rw [hv0e] at d3
    have HVE := Lib.hid hv0e
    have y0 : (0 : Int) ≤ j := by omega
    have y1 : (j : Int) < n := by omega
    obtain ⟨wx, hwx⟩ : ∃ wx, wr.alloc (.cells #[.int .i64 x.t, .int .i64 x.due, .int .i64 x.tries, .slice BA x.body.length bc] 48) = wx := ⟨_, rfl⟩
    have hx5 : Has wx wr.heap.size 48 #[.int .i64 x.t, .int .i64 x.due, .int .i64 x.tries, .slice BA x.body.length bc] := by rw [← hwx]; exact Has.made _ _ _
    have hbx : Below wr.heap.size wr wx := by rw [← hwx]; exact (Below.refl _ _).alloc (Nat.le_refl _) _
    have HWX := Lib.hid hwx
    have HBX := Lib.hid hbx
    have k3 : wx.cell? ⟨wr.heap.size, 3, none⟩ = some (.slice BA x.body.length bc) := hx5.cell 3
    have h4 : wr.cell? ⟨w.heap.size, 4, none⟩ = some (.slice (some ⟨gr, 0, none⟩) n c1) := H0.out.cell 4
    have e4 : wx.cell? ⟨w.heap.size, 4, none⟩ = some (.slice (some ⟨gr, 0, none⟩) n c1) := (hbx.cell (cell_block h4)).trans h4
    have HOX := Lib.hid (own_under HO.out hbx (Nat.le_refl _))
    have HC := Lib.hid (fun W (hW : Below wx.heap.size wx W) => oclone8_any BA x.body.length bc x.body W ((hsb.under hbx).under hW) (HBO.out _ (List.mem_of_getElem? hx)))
    have HSB : Hid (Below wx.heap.size wx wx.drew) := Lib.hid (below_draws (Below.refl _ _) 1)
    have H8 := Lib.hid h8b
    clear hwx hx5 hbx hsb h8b hv0 hx hcj hlj hjl hv0e h4
    go_upto_region 5 with fail
    rw [HWX.out]
    clear HWX d0 d1 d2 d3
    refine wp_region_held_drew (S := (fun W_ => W_.cell? ⟨w.heap.size, 4, none⟩ = some (.slice (some ⟨gr, 0, none⟩) n c1) ∧ W_.cell? ⟨wr.heap.size, 3, none⟩ = some (.slice BA x.body.length bc))) (by kernel_rfl) ?_ (fun hHeld => ?_)
    · exact ⟨e4, k3⟩
    refine wpAnyH_take (i := 0) (oi := ⟨some 17, _, _, _, _, _⟩) (v := ?_) rfl (by kernel_rfl) (by kernel_rfl) (by kernel_rfl) (fun _ _ _ h => h) (Or.inl ⟨by rfl, ?_⟩) (by assumption) ?_
    rotate_left
    · intro w_ hSw; (try dsimp only at hSw); (obtain ⟨s0, s1⟩ := hSw); go_simp <;> with_reducible rfl
    simp only [Act.put, List.setIfInBounds_toArray, List.set_cons_zero, List.set_cons_succ]
    refine wpAnyH_take (i := 1) (oi := ⟨some 18, _, _, _, _, _⟩) (v := ?_) rfl (by kernel_rfl) (by kernel_rfl) (by kernel_rfl) (fun _ _ _ h => h) (Or.inl ⟨by rfl, ?_⟩) (by assumption) ?_
    rotate_left
    · intro w_ hSw; (try dsimp only at hSw); (obtain ⟨s0, s1⟩ := hSw); go_simp <;> with_reducible rfl
    simp only [Act.put, List.setIfInBounds_toArray, List.set_cons_zero, List.set_cons_succ]
    refine wpAnyH_take (i := 2) (oi := ⟨some 19, _, _, _, _, _⟩) (v := ?_) rfl (by kernel_rfl) (by kernel_rfl) (by kernel_rfl) (fun _ _ _ h => h) (Or.inl ⟨by rfl, ?_⟩) (by assumption) ?_
    rotate_left
    · intro w_ hSw; (try dsimp only at hSw); (obtain ⟨s0, s1⟩ := hSw); go_simp <;> with_reducible rfl
    simp only [Act.put, List.setIfInBounds_toArray, List.set_cons_zero, List.set_cons_succ]
    refine wpAnyH_take (i := 3) (oi := ⟨some 20, _, _, _, _, _⟩) (v := ?_) rfl (by kernel_rfl) (by kernel_rfl) (by kernel_rfl) (fun _ _ _ h => h) (Or.inl ⟨by rfl, ?_⟩) (by assumption) ?_
    rotate_left
    · intro w_ hSw; (try dsimp only at hSw); (obtain ⟨s0, s1⟩ := hSw); go_simp <;> with_reducible rfl
    simp only [Act.put, List.setIfInBounds_toArray, List.set_cons_zero, List.set_cons_succ]
    refine wpAnyH_take (i := 4) (oi := ⟨some 21, _, _, _, _, _⟩) (v := ?_) rfl (by kernel_rfl) (by kernel_rfl) (by kernel_rfl) (fun _ _ _ h => h) (Or.inl ⟨by rfl, ?_⟩) (by assumption) ?_
    rotate_left
    · intro w_ hSw; (try dsimp only at hSw); (obtain ⟨s0, s1⟩ := hSw); go_simp <;> with_reducible rfl
    simp only [Act.put, List.setIfInBounds_toArray, List.set_cons_zero, List.set_cons_succ]
    refine wpAnyH_ready (rs := [5]) (by kernel_rfl) (by simp) ?_
    refine AllReadyH.cons (o := ⟨some 22, _, _, _, _, _⟩) rfl (fun K hK => ?_) AllReadyH.nil
    go_simp
    go_at_call 28
    refine (HC.out _ (by exact HSB.out)).mono ?_
    rintro e w6 ⟨A9, c9, rfl, ho9, hb9⟩
    have HO9 := Lib.hid ho9.out; have HB9 := Lib.hid (undrew12 hb9.out)
    clear ho9 hb9
    have t4 : w6.cell? ⟨w.heap.size, 4, none⟩ = some (.slice (some ⟨gr, 0, none⟩) n c1) := (HB9.out.cell (cell_block e4)).trans e4
    have t3 : w6.cell? ⟨wr.heap.size, 3, none⟩ = some (.slice BA x.body.length bc) := (HB9.out.cell (cell_block k3)).trans k3
    have ho6 := own_under HOX.out HB9.out (Nat.le_refl _)
    have u3 : w6.cell? ⟨gr, j * 4 + 3, none⟩ = some v0 := (ho6.cellAt (j * 4 + 3) (by omega)).trans HV0.out
    have u3f : w6.frozen? ⟨gr, j * 4 + 3, none⟩ = false := ho6.frozenAt _
    have HO6 := Lib.hid ho6
    clear ho6
    go_wp2_with fail
    refine hK.out _ _ ?_ (fun hHeld => ?_)
    · exact ⟨t4, t3⟩
    clear hK K
    try simp only [Act.put, List.setIfInBounds_toArray, List.set_cons_zero, List.set_cons_succ]
    refine wpAnyH_take (i := 6) (oi := ⟨some 23, _, _, _, _, _⟩) (v := ?_) rfl (by kernel_rfl) (by kernel_rfl) (by kernel_rfl) (fun _ _ _ h => h) (Or.inl ⟨by rfl, ?_⟩) (by assumption) ?_
    rotate_left
    · intro w_ hSw; (try dsimp only at hSw); (obtain ⟨s0, s1⟩ := hSw); go_simp <;> with_reducible rfl
    simp only [Act.put, List.setIfInBounds_toArray, List.set_cons_zero, List.set_cons_succ]
    refine wpAnyH_take (i := 7) (oi := ⟨some 24, _, _, _, _, _⟩) (v := ?_) rfl (by kernel_rfl) (by kernel_rfl) (by kernel_rfl) (fun _ _ _ h => h) (Or.inl ⟨by rfl, ?_⟩) (by assumption) ?_
    rotate_left
    · intro w_ hSw; (try dsimp only at hSw); (obtain ⟨s0, s1⟩ := hSw); go_simp <;> with_reducible rfl
    simp only [Act.put, List.setIfInBounds_toArray, List.set_cons_zero, List.set_cons_succ]
    refine wpAnyH_ready (rs := [8]) (by kernel_rfl) (by simp) ?_
    refine AllReadyH.cons (o := ⟨none, _, _, _, _, _⟩) rfl (fun K hK => ?_) AllReadyH.nil
    go_simp
    obtain ⟨w7, hw7⟩ : ∃ w7, w6.setCell ⟨gr, j * 4 + 3, none⟩ (.slice A9 x.body.length c9) = w7 := ⟨_, rfl⟩
    rw [hw7]
    have hg7 : w6.grownBy w7 (some gr) := by rw [← hw7]; exact only_store (only_refl _ _) rfl _
    have hsz := HSZ.out
    have hgrw := (HO.out.lt gr rfl).2
    have hwlt := HBWA.out.size
    have hbx := HBX.out.size
    have hb9s := HB9.out.size
    have hg7s := hg7.size
    have hst := HO6.out.stored (j * 4 + 3) (.slice A9 x.body.length c9)
    rw [hw7, cellsW_set HLJ.out] at hst
    have HO7 := Lib.hid hst.1
    have HL7 : Hid ((l.set j (x, .slice A9 x.body.length c9)).map (·.1) = ws) := Lib.hid (by
      rw [List.map_set, HL.out]
      obtain ⟨hj2, e⟩ := List.getElem?_eq_some_iff.1 HX.out
      dsimp only
      rw [← e, List.set_getElem_self])
    have HN7 : Hid ((l.set j (x, .slice A9 x.body.length c9)).length = n) := Lib.hid (by rw [List.length_set]; exact HLN.out)
    have HP7 : Hid (∀ p ∈ l.set j (x, .slice A9 x.body.length c9), BodyR (fun b => (P b ∧ b < w.heap.size) ∨ (wa.heap.size ≤ b ∧ b < w7.heap.size ∧ Value.ownBlock (.slice (some ⟨gr, 0, none⟩) n c1) ≠ some b)) w7 p.2 p.1.body) := Lib.hid fun p hp => by
      rcases List.mem_or_eq_of_mem_set hp with hp | rfl
      · refine ((((HP.out p hp).under HBX.out).under HB9.out).grown hg7 ?_).wide ?_
        · rintro (⟨_, h2⟩ | ⟨_, _, h3⟩)
          · omega
          · exact h3 rfl
        · rintro b (h2 | ⟨h2, h3, h4⟩)
          · exact .inl h2
          · exact .inr ⟨h2, by omega, h4⟩
      · have hb0 : BodyR (fun b => wx.drew.heap.size ≤ b ∧ b < w6.heap.size) w6 (.slice A9 x.body.length c9) x.body := BodyR.own HO9.out H8.out
        refine (hb0.grown hg7 ?_).wide ?_
        · rintro ⟨h2, _⟩
          have h3 : wx.heap.size ≤ gr := h2
          omega
        · rintro b ⟨h2, h3⟩
          have h4 : wx.heap.size ≤ b := h2
          refine .inr ⟨by omega, by omega, fun e => ?_⟩
          have e2 : gr = b := by simpa [Value.ownBlock] using e
          omega
    have HB7 : Hid (Below w.heap.size w w7) := Lib.hid (below_only ((HB.out.trans (HBX.out.mono HB.out.size)).trans (HB9.out.mono (Nat.le_trans HB.out.size hbx))) hg7 (Nat.le_trans HB.out.size (Nat.le_trans hbx hb9s)) (by omega))
    have H07 : Hid (Has w7 w.heap.size 24 #[.int .i64 p, .int .i64 m, .int .i64 q, .int .i64 h, .slice (some ⟨gr, 0, none⟩) n c1]) := Lib.hid (((H0.out.under HBX.out H0.out.lt).under HB9.out (by have := H0.out.lt; omega)).grow hg7 (by simp; omega))
    have H17 : Hid (Has w7 (w.heap.size + 1) 24 #[.int .i64 0, .int .i64 0, .int .i64 0, .int .i64 0, .slice none 0 0]) := Lib.hid (((H1.out.under HBX.out H1.out.lt).under HB9.out (by have := H1.out.lt; omega)).grow hg7 (by simp; omega))
    have v4 := hg7.cell t4 (by simp; omega)
    have v3 := hg7.cell t3 (by simp; omega)
    refine hK.out _ _ ?_ (fun hHeld => ?_)
    · exact ⟨v4, v3⟩
    clear hK K hst hg7 hw7 t4 t3 u3 u3f v4 v3 k3 e4 HO6 HO9 HB9 HOX HP HO HB H0 H1 HLJ HV0 HVE HC HSB hg7s hb9s hbx hwlt hgrw hHeld
    refine wpAnyH_done (by kernel_rfl) ?_ _
    go_wp2
    go_roundg (gk - 1)
    case measure => omega
    case rel => exact ⟨j + 1, _, by omega, by omega, by go_num, HL7, HN7, HO7, HP7, HB7, H07, H17⟩
end Go.Proofs.Ytbohoejikihnfaa
