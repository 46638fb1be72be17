/-
  linesidelaw12.done, by contract.
-/
import Derived.Test.YtbohoejikihnfaaTries

namespace Go.Proofs.Ytbohoejikihnfaa

open Go.RowKit

open Go.Great

theorem results_rtt12 {P : Program} {fn : Func} {p u v : Tmp} {ty : TypeId} (h : fn.results = #[.cell p ty, .tmp u, .tmp v]) (tmps : Array Value) (w : World) (g : Nat) (t : TypeId) (cs : Array Value) (d : TypeDesc)
    (hp : tmps.getD p undef = .pointer (some ⟨g, 0, none⟩)) (hg : w.heap[g]? = some (.cells cs t (0, 0)))
    (hu : P.underlying ty = some d) (hd : (match d with | .struct _ | .array _ _ => true | _ => false) = true) (hi : (P.info? ty).map (·.size) = some cs.size) :
    (results fn tmps).run P w = .ok (.tuple #[.agg cs, tmps.getD u undef, tmps.getD v undef]) w := by
  have e : (results fn tmps).run P w = ((asAddr (tmps.getD p undef)).run P w).andThen fun a w₁ => ((loadVar ty a).run P w₁).andThen fun y w₂ => .ok (.tuple #[y, tmps.getD u undef, tmps.getD v undef]) w₂ := by
    simp only [results, h]
    simp [Sem.run_bind, Result.andThen]
  rw [e, hp]
  simp [asAddr, run_loadVar_row w g t ty cs (0, 0) d hg hu hd hi]
theorem LsR.wide12 {P Q : Nat → Prop} {w : World} {A : Option Addr} {n c : Nat} {xss : List (List Nat)} (h : LsR P w A n c xss) (hpq : ∀ b, P b → Q b) : LsR Q w A n c xss := by
  obtain ⟨l, h1, h2, h3, h4⟩ := h
  exact ⟨l, h1, h2, ⟨h3.1, fun ad ha h0 => hpq _ (h3.2 ad ha h0)⟩, fun p hp => (h4 p hp).wide hpq⟩
/-- What done answers. -/
def DonePost (P : Nat → Prop) (r : L0 × List (List Nat) × Bool) (w : World) (e : Ending) (w' : World) : Prop :=
  ∃ A' c' B' d', e = .returned (.tuple #[.agg (lkC r.1 A' c'), .slice B' r.2.1.length d', .bool r.2.2]) ∧ WsR (Nw P w w') w' A' r.1.ws.length c' r.1.ws ∧ LsR (Nw P w w') w' B' r.2.1.length d' r.2.1 ∧ Below w.heap.size w w'

set_option maxRecDepth 100000 in
set_option maxHeartbeats 16000000 in
theorem odone_any {P : Nat → Prop} (l : L0) (A : Option Addr) (c : Nat) (o : W0) (B : Option Addr) (d : Nat) (w : World) (hw : WsR P w A l.ws.length c l.ws) (hx : BodyR P w (.slice B o.body.length d) o.body) (hL : lightL l = true) (hxs : o.body.length ≤ 2000) :
    Calls Try.prog 24 #[.agg (lkC l A c), .agg (wtA o (.slice B o.body.length d))] w (DonePost P (done0 l o) w) := by
  unfold DonePost
  obtain ⟨wa, hwa⟩ : ∃ wa, ((w.alloc (.cells (lkC l A c) 24)).alloc (.cells (wtA o (.slice B o.body.length d)) 27)).alloc (.cells #[.int .i64 0, .int .i64 0, .int .i64 0, .int .i64 0, .slice none 0 0] 24) = wa := ⟨_, rfl⟩
  have hbwa : Below w.heap.size w wa := by rw [← hwa]; exact (((Below.refl _ _).alloc (Nat.le_refl _) _).alloc (by simp) _).alloc (by simp; omega) _
  have h0 : Has wa (w.heap.size) 24 (lkC l A c) := by rw [← hwa]; exact (((Has.made _ _ _).beside _).beside _)
  have h1 : Has wa (w.heap.size + 1) 27 (wtA o (.slice B o.body.length d)) := by rw [← hwa]; exact ((has_at11 (by simp)).beside _)
  have h2 : Has wa (w.heap.size + 1 + 1) 24 #[.int .i64 0, .int .i64 0, .int .i64 0, .int .i64 0, .slice none 0 0] := by rw [← hwa]; exact (has_at11 (by simp))
  have HWA := Lib.hid hwa; have HBWA := Lib.hid hbwa
  have hwl := hw.low
  have hxl := hx.low
  have hsz : wa.heap.size = w.heap.size + 3 := by rw [← hwa]; simp
  obtain ⟨wb, hwb⟩ : ∃ wb, (wa.alloc (.cells #[.int .i64 0, .int .i64 0, .int .i64 0, .int .i64 0, .slice none 0 0] 24)).setRow (wa.heap.size) (lkC l A c) = wb := ⟨_, rfl⟩
  have hba : Below wa.heap.size wa wb := by rw [← hwb]; exact below_row (g := wa.heap.size) ((Below.refl _ _).alloc (Nat.le_refl _) _) (by omega) _
  have hmk : Has (wa.alloc (.cells #[.int .i64 0, .int .i64 0, .int .i64 0, .int .i64 0, .slice none 0 0] 24)) (wa.heap.size) 24 #[.int .i64 0, .int .i64 0, .int .i64 0, .int .i64 0, .slice none 0 0] := has_at11 rfl
  have h3 : Has wb (wa.heap.size) 24 (lkC l A c) := by rw [← hwb]; exact has_row11 hmk _
  have hszb : wb.heap.size = w.heap.size + 4 := by rw [← hwb]; simp [hsz]
  have HMK := Lib.hid hmk; have HWB := Lib.hid hwb; have H0 := Lib.hid h0
  have HP0 := Lib.hid (h0.under hba h0.lt); have HP1 := Lib.hid (h1.under hba h1.lt); have HP2 := Lib.hid (h2.under hba h2.lt); have HP3 := Lib.hid h3
  have HBB := Lib.hid (hbwa.trans (hba.mono hbwa.size))
  have HSZ := Lib.hid (And.intro hszb hsz)
  have HW := Lib.hid (hwl.under (hbwa.trans (hba.mono hbwa.size))); have HX := Lib.hid (hxl.under (hbwa.trans (hba.mono hbwa.size)))
  have HL := Lib.hid hL; have HXS := Lib.hid hxs
  have k0 : wb.cell? ⟨w.heap.size + 1, 0, none⟩ = some (.int .i64 o.t) := (h1.under hba h1.lt).cell 0
  clear hwb hba hmk h3 hszb hsz hwa hbwa h0 h1 h2 hwl hxl hw hx hxs hL HBWA
  obtain ⟨kd, T, now, xs⟩ := o
  unfold wtA at *
  dsimp only at *
  unfold done0
  dsimp only
  by_cases hk0 : kd = 0
  · rw [if_pos hk0]
    have e0 : (kd == 0) = true := by simp [hk0]
    clear hk0
    by_cases he : (sentE l T now xs) = 0
    · rw [if_pos he]
      have he1 : ((sentE l T now xs) != 0) = false := by simp [he]
      clear he
      go_enter Try.func24, Try.ntmps24
      go_upto_region 1 with fail
      rw [HWA.out]
      clear HWA
      go_upto_region 2 with (first | (with_reducible refine wpList_load_row (o := ⟨some 11, _, _, _, _, _⟩) rfl 24 _ rfl (w.heap.size) rfl 24 (lkC l A c) (0, 0) _ (H0.out).raw11 Try.underlying24 rfl (by kernel_rfl) ?_) | (with_reducible refine wpList_store_rowTo (o := ⟨none, _, _, _, _, _⟩) rfl 24 _ _ rfl rfl (wa.heap.size) (lkC l A c) rfl rfl 24 _ (HMK.out).raw11 (by kernel_rfl) (by kernel_rfl) (by kernel_rfl) ?_))
      rw [HWB.out]
      clear HWB HMK H0
      have HK := Lib.hid (olk_sent (P := (fun b => P b ∧ b < w.heap.size)) l A c T now B d xs wb HW.out HX.out HL.out HXS.out)
      have k1 : wb.cell? ⟨w.heap.size + 1, 1, none⟩ = some (.int .i64 T) := HP1.out.cell 1
      have k2 : wb.cell? ⟨w.heap.size + 1, 2, none⟩ = some (.int .i64 now) := HP1.out.cell 2
      have k3 : wb.cell? ⟨w.heap.size + 1, 3, none⟩ = some (.slice B xs.length d) := HP1.out.cell 3
      have HQ := Lib.hid (fun W (hW : Below wb.heap.size wb W) => And.intro (HP0.out.under hW HP0.out.lt) (And.intro (HP2.out.under hW HP2.out.lt) (And.intro (HP3.out.under hW HP3.out.lt) (And.intro (HW.out.under hW) (HBB.out.trans (hW.mono HBB.out.size))))))
      go_wp2_with (with_reducible refine wpList_load_row (o := ⟨some 17, _, _, _, _, _⟩) rfl 24 _ rfl (w.heap.size) rfl 24 (lkC l A c) (0, 0) _ (HP0.out).raw11 Try.underlying24 rfl (by kernel_rfl) ?_)
      refine HK.out.mono ?_
      rintro e wc ⟨A1, c1, rfl, hwn, hbc⟩
      obtain ⟨q0, q2, q3, qw, qb⟩ := HQ.out wc hbc
      obtain ⟨hsz, hsza⟩ := HSZ.out
      have hbs := hbc.size
      obtain ⟨WW, hWW⟩ : ∃ WW, wc.setRow (wa.heap.size) (lkC (sentL l T now xs) A1 c1) = WW := ⟨_, rfl⟩
      have HQ0 : Hid (Has WW (w.heap.size) 24 (lkC l A c)) := Lib.hid (by rw [← hWW]; exact has_rowo11 q0 (by omega) _)
      have HZ : Hid (Has WW (w.heap.size + 1 + 1) 24 #[.int .i64 0, .int .i64 0, .int .i64 0, .int .i64 0, .slice none 0 0]) := Lib.hid (by rw [← hWW]; exact has_rowo11 q2 (by omega) _)
      have HY : Hid (Has WW (wa.heap.size) 24 (lkC (sentL l T now xs) A1 c1)) := Lib.hid (by rw [← hWW]; exact has_row11 q3 _)
      have HB : Hid (Below w.heap.size w WW) := Lib.hid (by rw [← hWW]; exact below_row (g := wa.heap.size) qb (by omega) _)
      have HWS : Hid (WsR (fun b => P b ∧ b < w.heap.size) WW A l.ws.length c l.ws) := Lib.hid (by rw [← hWW]; exact qw.row (by intro h; have := h.2; omega) _)
      have HWN : Hid (WsR (fun b => (P b ∧ b < w.heap.size) ∨ (w.heap.size + 4 ≤ b ∧ b < WW.heap.size)) WW A1 (sentL l T now xs).ws.length c1 (sentL l T now xs).ws) := Lib.hid (by rw [← hWW]; exact ((hwn.wide (fun b h => h.imp id fun h => (show w.heap.size + 4 ≤ b ∧ b < (wc.setRow (wa.heap.size) (lkC (sentL l T now xs) A1 c1)).heap.size from ⟨by omega, by simpa using h.2⟩))).row (by rintro (⟨_, h⟩ | ⟨h, _⟩) <;> omega) _))
      have HWW := Lib.hid hWW
      have HQ3 := Lib.hid q3
      have hws : w.heap.size + 4 ≤ WW.heap.size := by rw [← hWW]; simpa using (by omega : w.heap.size + 4 ≤ wc.heap.size)
      clear hWW q0 q2 q3 qw qb hwn hbc HK HQ HP0 HP1 HP2 HP3 HW HX HBB k0 k1 k2 k3 hbs hsz hsza
      go_upto_region 14 with (with_reducible refine wpList_store_rowTo (o := ⟨none, _, _, _, _, _⟩) rfl 24 _ _ rfl rfl (wa.heap.size) (lkC (sentL l T now xs) A1 c1) rfl rfl 24 _ (HQ3.out).raw11 (by kernel_rfl) (by kernel_rfl) (by kernel_rfl) ?_)
      rw [HWW.out]
      clear HWW HQ3
      have HR := Lib.hid (has_row11 HZ.out (lkC (sentL l T now xs) A1 c1))
      have HBF := Lib.hid (below_row (g := w.heap.size + 1 + 1) HB.out (by omega) (lkC (sentL l T now xs) A1 c1))
      have hss : (WW.setRow (w.heap.size + 1 + 1) (lkC (sentL l T now xs) A1 c1)).heap.size = WW.heap.size := by simp
      have HS := Lib.hid (show WsR (Nw P w (WW.setRow (w.heap.size + 1 + 1) (lkC (sentL l T now xs) A1 c1))) (WW.setRow (w.heap.size + 1 + 1) (lkC (sentL l T now xs) A1 c1)) A1 (sentL l T now xs).ws.length c1 (sentL l T now xs).ws from (HWN.out.row (g := w.heap.size + 1 + 1) (by rintro (⟨_, h⟩ | ⟨h, _⟩) <;> omega) _).wide (fun b h => h.elim (fun h => .inl h.1) (fun h => .inr ⟨by omega, by omega⟩)))
      go_wp2_with (first | (with_reducible refine wpList_load_row (o := ⟨some 59, _, _, _, _, _⟩) rfl 24 _ rfl (wa.heap.size) rfl 24 (lkC (sentL l T now xs) A1 c1) (0, 0) _ (HY.out).raw11 Try.underlying24 rfl (by kernel_rfl) ?_) | (with_reducible refine wpList_store_rowTo (o := ⟨none, _, _, _, _, _⟩) rfl 24 _ _ rfl rfl (w.heap.size + 1 + 1) (lkC (sentL l T now xs) A1 c1) rfl rfl 24 _ (HZ.out).raw11 (by kernel_rfl) (by kernel_rfl) (by kernel_rfl) ?_))
      refine bodyPost_ret (results_rtt12 rfl _ _ (w.heap.size + 1 + 1) 24 _ _ rfl HR.out Try.underlying24 rfl (by kernel_rfl)) rfl ?_
      exact ⟨A1, c1, none, 0, rfl, HS.out, LsR.nil _, HBF.out⟩
    · rw [if_neg he]
      have he1 : ((sentE l T now xs) != 0) = true := by simp [he]
      clear he
      go_enter Try.func24, Try.ntmps24
      go_upto_region 1 with fail
      rw [HWA.out]
      clear HWA
      go_upto_region 2 with (first | (with_reducible refine wpList_load_row (o := ⟨some 11, _, _, _, _, _⟩) rfl 24 _ rfl (w.heap.size) rfl 24 (lkC l A c) (0, 0) _ (H0.out).raw11 Try.underlying24 rfl (by kernel_rfl) ?_) | (with_reducible refine wpList_store_rowTo (o := ⟨none, _, _, _, _, _⟩) rfl 24 _ _ rfl rfl (wa.heap.size) (lkC l A c) rfl rfl 24 _ (HMK.out).raw11 (by kernel_rfl) (by kernel_rfl) (by kernel_rfl) ?_))
      rw [HWB.out]
      clear HWB HMK H0
      have HK := Lib.hid (olk_sent (P := (fun b => P b ∧ b < w.heap.size)) l A c T now B d xs wb HW.out HX.out HL.out HXS.out)
      have k1 : wb.cell? ⟨w.heap.size + 1, 1, none⟩ = some (.int .i64 T) := HP1.out.cell 1
      have k2 : wb.cell? ⟨w.heap.size + 1, 2, none⟩ = some (.int .i64 now) := HP1.out.cell 2
      have k3 : wb.cell? ⟨w.heap.size + 1, 3, none⟩ = some (.slice B xs.length d) := HP1.out.cell 3
      have HQ := Lib.hid (fun W (hW : Below wb.heap.size wb W) => And.intro (HP0.out.under hW HP0.out.lt) (And.intro (HP2.out.under hW HP2.out.lt) (And.intro (HP3.out.under hW HP3.out.lt) (And.intro (HW.out.under hW) (HBB.out.trans (hW.mono HBB.out.size))))))
      go_wp2_with (with_reducible refine wpList_load_row (o := ⟨some 17, _, _, _, _, _⟩) rfl 24 _ rfl (w.heap.size) rfl 24 (lkC l A c) (0, 0) _ (HP0.out).raw11 Try.underlying24 rfl (by kernel_rfl) ?_)
      refine HK.out.mono ?_
      rintro e wc ⟨A1, c1, rfl, hwn, hbc⟩
      obtain ⟨q0, q2, q3, qw, qb⟩ := HQ.out wc hbc
      obtain ⟨hsz, hsza⟩ := HSZ.out
      have hbs := hbc.size
      obtain ⟨WW, hWW⟩ : ∃ WW, wc.setRow (wa.heap.size) (lkC (sentL l T now xs) A1 c1) = WW := ⟨_, rfl⟩
      have HQ0 : Hid (Has WW (w.heap.size) 24 (lkC l A c)) := Lib.hid (by rw [← hWW]; exact has_rowo11 q0 (by omega) _)
      have HZ : Hid (Has WW (w.heap.size + 1 + 1) 24 #[.int .i64 0, .int .i64 0, .int .i64 0, .int .i64 0, .slice none 0 0]) := Lib.hid (by rw [← hWW]; exact has_rowo11 q2 (by omega) _)
      have HY : Hid (Has WW (wa.heap.size) 24 (lkC (sentL l T now xs) A1 c1)) := Lib.hid (by rw [← hWW]; exact has_row11 q3 _)
      have HB : Hid (Below w.heap.size w WW) := Lib.hid (by rw [← hWW]; exact below_row (g := wa.heap.size) qb (by omega) _)
      have HWS : Hid (WsR (fun b => P b ∧ b < w.heap.size) WW A l.ws.length c l.ws) := Lib.hid (by rw [← hWW]; exact qw.row (by intro h; have := h.2; omega) _)
      have HWN : Hid (WsR (fun b => (P b ∧ b < w.heap.size) ∨ (w.heap.size + 4 ≤ b ∧ b < WW.heap.size)) WW A1 (sentL l T now xs).ws.length c1 (sentL l T now xs).ws) := Lib.hid (by rw [← hWW]; exact ((hwn.wide (fun b h => h.imp id fun h => (show w.heap.size + 4 ≤ b ∧ b < (wc.setRow (wa.heap.size) (lkC (sentL l T now xs) A1 c1)).heap.size from ⟨by omega, by simpa using h.2⟩))).row (by rintro (⟨_, h⟩ | ⟨h, _⟩) <;> omega) _))
      have HWW := Lib.hid hWW
      have HQ3 := Lib.hid q3
      have hws : w.heap.size + 4 ≤ WW.heap.size := by rw [← hWW]; simpa using (by omega : w.heap.size + 4 ≤ wc.heap.size)
      clear hWW q0 q2 q3 qw qb hwn hbc HK HQ HP0 HP1 HP2 HP3 HW HX HBB k0 k1 k2 k3 hbs hsz hsza
      go_upto_region 14 with (with_reducible refine wpList_store_rowTo (o := ⟨none, _, _, _, _, _⟩) rfl 24 _ _ rfl rfl (wa.heap.size) (lkC (sentL l T now xs) A1 c1) rfl rfl 24 _ (HQ3.out).raw11 (by kernel_rfl) (by kernel_rfl) (by kernel_rfl) ?_)
      rw [HWW.out]
      clear HWW HQ3
      have HR := Lib.hid (has_row11 HZ.out (lkC l A c))
      have HBF := Lib.hid (below_row (g := w.heap.size + 1 + 1) HB.out (by omega) (lkC l A c))
      have HS := Lib.hid (show WsR (Nw P w (WW.setRow (w.heap.size + 1 + 1) (lkC l A c))) (WW.setRow (w.heap.size + 1 + 1) (lkC l A c)) A l.ws.length c l.ws from ((HWS.out).row (g := w.heap.size + 1 + 1) (by intro h; have := h.2; omega) _).wide (fun b h => .inl h.1))
      go_wp2_with (first | (with_reducible refine wpList_load_row (o := ⟨some 58, _, _, _, _, _⟩) rfl 24 _ rfl (w.heap.size) rfl 24 (lkC l A c) (0, 0) _ (HQ0.out).raw11 Try.underlying24 rfl (by kernel_rfl) ?_) | (with_reducible refine wpList_store_rowTo (o := ⟨none, _, _, _, _, _⟩) rfl 24 _ _ rfl rfl (w.heap.size + 1 + 1) (lkC l A c) rfl rfl 24 _ (HZ.out).raw11 (by kernel_rfl) (by kernel_rfl) (by kernel_rfl) ?_))
      refine bodyPost_ret (results_rtt12 rfl _ _ (w.heap.size + 1 + 1) 24 _ _ rfl HR.out Try.underlying24 rfl (by kernel_rfl)) rfl ?_
      exact ⟨A, c, none, 0, rfl, HS.out, LsR.nil _, HBF.out⟩
  rw [if_neg hk0]
  have e0 : (kd == 0) = false := by simp [hk0]
  by_cases hk1 : kd = 1
  · rw [if_pos hk1]
    have e1 : (kd == 1) = true := by simp [hk1]
    clear hk0
    clear hk1
    by_cases he : (ackedE l T) = 0
    · rw [if_pos he]
      have he1 : ((ackedE l T) != 0) = false := by simp [he]
      clear he
      go_enter Try.func24, Try.ntmps24
      go_upto_region 1 with fail
      rw [HWA.out]
      clear HWA
      go_upto_region 2 with (first | (with_reducible refine wpList_load_row (o := ⟨some 11, _, _, _, _, _⟩) rfl 24 _ rfl (w.heap.size) rfl 24 (lkC l A c) (0, 0) _ (H0.out).raw11 Try.underlying24 rfl (by kernel_rfl) ?_) | (with_reducible refine wpList_store_rowTo (o := ⟨none, _, _, _, _, _⟩) rfl 24 _ _ rfl rfl (wa.heap.size) (lkC l A c) rfl rfl 24 _ (HMK.out).raw11 (by kernel_rfl) (by kernel_rfl) (by kernel_rfl) ?_))
      rw [HWB.out]
      clear HWB HMK H0
      have HK := Lib.hid (olk_acked (P := (fun b => P b ∧ b < w.heap.size)) l A c T wb HW.out HL.out)
      have k1 : wb.cell? ⟨w.heap.size + 1, 1, none⟩ = some (.int .i64 T) := HP1.out.cell 1
      have k2 : wb.cell? ⟨w.heap.size + 1, 2, none⟩ = some (.int .i64 now) := HP1.out.cell 2
      have k3 : wb.cell? ⟨w.heap.size + 1, 3, none⟩ = some (.slice B xs.length d) := HP1.out.cell 3
      have HQ := Lib.hid (fun W (hW : Below wb.heap.size wb W) => And.intro (HP0.out.under hW HP0.out.lt) (And.intro (HP2.out.under hW HP2.out.lt) (And.intro (HP3.out.under hW HP3.out.lt) (And.intro (HW.out.under hW) (HBB.out.trans (hW.mono HBB.out.size))))))
      go_wp2_with (with_reducible refine wpList_load_row (o := ⟨some 30, _, _, _, _, _⟩) rfl 24 _ rfl (w.heap.size) rfl 24 (lkC l A c) (0, 0) _ (HP0.out).raw11 Try.underlying24 rfl (by kernel_rfl) ?_)
      refine HK.out.mono ?_
      rintro e wc ⟨A1, c1, rfl, hwn, hbc⟩
      obtain ⟨q0, q2, q3, qw, qb⟩ := HQ.out wc hbc
      obtain ⟨hsz, hsza⟩ := HSZ.out
      have hbs := hbc.size
      obtain ⟨WW, hWW⟩ : ∃ WW, wc.setRow (wa.heap.size) (lkC (ackedL l T) A1 c1) = WW := ⟨_, rfl⟩
      have HQ0 : Hid (Has WW (w.heap.size) 24 (lkC l A c)) := Lib.hid (by rw [← hWW]; exact has_rowo11 q0 (by omega) _)
      have HZ : Hid (Has WW (w.heap.size + 1 + 1) 24 #[.int .i64 0, .int .i64 0, .int .i64 0, .int .i64 0, .slice none 0 0]) := Lib.hid (by rw [← hWW]; exact has_rowo11 q2 (by omega) _)
      have HY : Hid (Has WW (wa.heap.size) 24 (lkC (ackedL l T) A1 c1)) := Lib.hid (by rw [← hWW]; exact has_row11 q3 _)
      have HB : Hid (Below w.heap.size w WW) := Lib.hid (by rw [← hWW]; exact below_row (g := wa.heap.size) qb (by omega) _)
      have HWS : Hid (WsR (fun b => P b ∧ b < w.heap.size) WW A l.ws.length c l.ws) := Lib.hid (by rw [← hWW]; exact qw.row (by intro h; have := h.2; omega) _)
      have HWN : Hid (WsR (fun b => (P b ∧ b < w.heap.size) ∨ (w.heap.size + 4 ≤ b ∧ b < WW.heap.size)) WW A1 (ackedL l T).ws.length c1 (ackedL l T).ws) := Lib.hid (by rw [← hWW]; exact ((hwn.wide (fun b h => h.imp id fun h => (show w.heap.size + 4 ≤ b ∧ b < (wc.setRow (wa.heap.size) (lkC (ackedL l T) A1 c1)).heap.size from ⟨by omega, by simpa using h.2⟩))).row (by rintro (⟨_, h⟩ | ⟨h, _⟩) <;> omega) _))
      have HWW := Lib.hid hWW
      have HQ3 := Lib.hid q3
      have hws : w.heap.size + 4 ≤ WW.heap.size := by rw [← hWW]; simpa using (by omega : w.heap.size + 4 ≤ wc.heap.size)
      clear hWW q0 q2 q3 qw qb hwn hbc HK HQ HP0 HP1 HP2 HP3 HW HX HBB k0 k1 k2 k3 hbs hsz hsza
      go_upto_region 14 with (with_reducible refine wpList_store_rowTo (o := ⟨none, _, _, _, _, _⟩) rfl 24 _ _ rfl rfl (wa.heap.size) (lkC (ackedL l T) A1 c1) rfl rfl 24 _ (HQ3.out).raw11 (by kernel_rfl) (by kernel_rfl) (by kernel_rfl) ?_)
      rw [HWW.out]
      clear HWW HQ3
      have HR := Lib.hid (has_row11 HZ.out (lkC (ackedL l T) A1 c1))
      have HBF := Lib.hid (below_row (g := w.heap.size + 1 + 1) HB.out (by omega) (lkC (ackedL l T) A1 c1))
      have hss : (WW.setRow (w.heap.size + 1 + 1) (lkC (ackedL l T) A1 c1)).heap.size = WW.heap.size := by simp
      have HS := Lib.hid (show WsR (Nw P w (WW.setRow (w.heap.size + 1 + 1) (lkC (ackedL l T) A1 c1))) (WW.setRow (w.heap.size + 1 + 1) (lkC (ackedL l T) A1 c1)) A1 (ackedL l T).ws.length c1 (ackedL l T).ws from (HWN.out.row (g := w.heap.size + 1 + 1) (by rintro (⟨_, h⟩ | ⟨h, _⟩) <;> omega) _).wide (fun b h => h.elim (fun h => .inl h.1) (fun h => .inr ⟨by omega, by omega⟩)))
      go_wp2_with (first | (with_reducible refine wpList_load_row (o := ⟨some 59, _, _, _, _, _⟩) rfl 24 _ rfl (wa.heap.size) rfl 24 (lkC (ackedL l T) A1 c1) (0, 0) _ (HY.out).raw11 Try.underlying24 rfl (by kernel_rfl) ?_) | (with_reducible refine wpList_store_rowTo (o := ⟨none, _, _, _, _, _⟩) rfl 24 _ _ rfl rfl (w.heap.size + 1 + 1) (lkC (ackedL l T) A1 c1) rfl rfl 24 _ (HZ.out).raw11 (by kernel_rfl) (by kernel_rfl) (by kernel_rfl) ?_))
      refine bodyPost_ret (results_rtt12 rfl _ _ (w.heap.size + 1 + 1) 24 _ _ rfl HR.out Try.underlying24 rfl (by kernel_rfl)) rfl ?_
      exact ⟨A1, c1, none, 0, rfl, HS.out, LsR.nil _, HBF.out⟩
    · rw [if_neg he]
      have he1 : ((ackedE l T) != 0) = true := by simp [he]
      clear he
      go_enter Try.func24, Try.ntmps24
      go_upto_region 1 with fail
      rw [HWA.out]
      clear HWA
      go_upto_region 2 with (first | (with_reducible refine wpList_load_row (o := ⟨some 11, _, _, _, _, _⟩) rfl 24 _ rfl (w.heap.size) rfl 24 (lkC l A c) (0, 0) _ (H0.out).raw11 Try.underlying24 rfl (by kernel_rfl) ?_) | (with_reducible refine wpList_store_rowTo (o := ⟨none, _, _, _, _, _⟩) rfl 24 _ _ rfl rfl (wa.heap.size) (lkC l A c) rfl rfl 24 _ (HMK.out).raw11 (by kernel_rfl) (by kernel_rfl) (by kernel_rfl) ?_))
      rw [HWB.out]
      clear HWB HMK H0
      have HK := Lib.hid (olk_acked (P := (fun b => P b ∧ b < w.heap.size)) l A c T wb HW.out HL.out)
      have k1 : wb.cell? ⟨w.heap.size + 1, 1, none⟩ = some (.int .i64 T) := HP1.out.cell 1
      have k2 : wb.cell? ⟨w.heap.size + 1, 2, none⟩ = some (.int .i64 now) := HP1.out.cell 2
      have k3 : wb.cell? ⟨w.heap.size + 1, 3, none⟩ = some (.slice B xs.length d) := HP1.out.cell 3
      have HQ := Lib.hid (fun W (hW : Below wb.heap.size wb W) => And.intro (HP0.out.under hW HP0.out.lt) (And.intro (HP2.out.under hW HP2.out.lt) (And.intro (HP3.out.under hW HP3.out.lt) (And.intro (HW.out.under hW) (HBB.out.trans (hW.mono HBB.out.size))))))
      go_wp2_with (with_reducible refine wpList_load_row (o := ⟨some 30, _, _, _, _, _⟩) rfl 24 _ rfl (w.heap.size) rfl 24 (lkC l A c) (0, 0) _ (HP0.out).raw11 Try.underlying24 rfl (by kernel_rfl) ?_)
      refine HK.out.mono ?_
      rintro e wc ⟨A1, c1, rfl, hwn, hbc⟩
      obtain ⟨q0, q2, q3, qw, qb⟩ := HQ.out wc hbc
      obtain ⟨hsz, hsza⟩ := HSZ.out
      have hbs := hbc.size
      obtain ⟨WW, hWW⟩ : ∃ WW, wc.setRow (wa.heap.size) (lkC (ackedL l T) A1 c1) = WW := ⟨_, rfl⟩
      have HQ0 : Hid (Has WW (w.heap.size) 24 (lkC l A c)) := Lib.hid (by rw [← hWW]; exact has_rowo11 q0 (by omega) _)
      have HZ : Hid (Has WW (w.heap.size + 1 + 1) 24 #[.int .i64 0, .int .i64 0, .int .i64 0, .int .i64 0, .slice none 0 0]) := Lib.hid (by rw [← hWW]; exact has_rowo11 q2 (by omega) _)
      have HY : Hid (Has WW (wa.heap.size) 24 (lkC (ackedL l T) A1 c1)) := Lib.hid (by rw [← hWW]; exact has_row11 q3 _)
      have HB : Hid (Below w.heap.size w WW) := Lib.hid (by rw [← hWW]; exact below_row (g := wa.heap.size) qb (by omega) _)
      have HWS : Hid (WsR (fun b => P b ∧ b < w.heap.size) WW A l.ws.length c l.ws) := Lib.hid (by rw [← hWW]; exact qw.row (by intro h; have := h.2; omega) _)
      have HWN : Hid (WsR (fun b => (P b ∧ b < w.heap.size) ∨ (w.heap.size + 4 ≤ b ∧ b < WW.heap.size)) WW A1 (ackedL l T).ws.length c1 (ackedL l T).ws) := Lib.hid (by rw [← hWW]; exact ((hwn.wide (fun b h => h.imp id fun h => (show w.heap.size + 4 ≤ b ∧ b < (wc.setRow (wa.heap.size) (lkC (ackedL l T) A1 c1)).heap.size from ⟨by omega, by simpa using h.2⟩))).row (by rintro (⟨_, h⟩ | ⟨h, _⟩) <;> omega) _))
      have HWW := Lib.hid hWW
      have HQ3 := Lib.hid q3
      have hws : w.heap.size + 4 ≤ WW.heap.size := by rw [← hWW]; simpa using (by omega : w.heap.size + 4 ≤ wc.heap.size)
      clear hWW q0 q2 q3 qw qb hwn hbc HK HQ HP0 HP1 HP2 HP3 HW HX HBB k0 k1 k2 k3 hbs hsz hsza
      go_upto_region 14 with (with_reducible refine wpList_store_rowTo (o := ⟨none, _, _, _, _, _⟩) rfl 24 _ _ rfl rfl (wa.heap.size) (lkC (ackedL l T) A1 c1) rfl rfl 24 _ (HQ3.out).raw11 (by kernel_rfl) (by kernel_rfl) (by kernel_rfl) ?_)
      rw [HWW.out]
      clear HWW HQ3
      have HR := Lib.hid (has_row11 HZ.out (lkC l A c))
      have HBF := Lib.hid (below_row (g := w.heap.size + 1 + 1) HB.out (by omega) (lkC l A c))
      have HS := Lib.hid (show WsR (Nw P w (WW.setRow (w.heap.size + 1 + 1) (lkC l A c))) (WW.setRow (w.heap.size + 1 + 1) (lkC l A c)) A l.ws.length c l.ws from ((HWS.out).row (g := w.heap.size + 1 + 1) (by intro h; have := h.2; omega) _).wide (fun b h => .inl h.1))
      go_wp2_with (first | (with_reducible refine wpList_load_row (o := ⟨some 58, _, _, _, _, _⟩) rfl 24 _ rfl (w.heap.size) rfl 24 (lkC l A c) (0, 0) _ (HQ0.out).raw11 Try.underlying24 rfl (by kernel_rfl) ?_) | (with_reducible refine wpList_store_rowTo (o := ⟨none, _, _, _, _, _⟩) rfl 24 _ _ rfl rfl (w.heap.size + 1 + 1) (lkC l A c) rfl rfl 24 _ (HZ.out).raw11 (by kernel_rfl) (by kernel_rfl) (by kernel_rfl) ?_))
      refine bodyPost_ret (results_rtt12 rfl _ _ (w.heap.size + 1 + 1) 24 _ _ rfl HR.out Try.underlying24 rfl (by kernel_rfl)) rfl ?_
      exact ⟨A, c, none, 0, rfl, HS.out, LsR.nil _, HBF.out⟩
  rw [if_neg hk1]
  have e1 : (kd == 1) = false := by simp [hk1]
  by_cases hk2 : kd = 2
  · rw [if_pos hk2]
    have e2 : (kd == 2) = true := by simp [hk2]
    clear hk0
    clear hk1
    clear hk2
    by_cases he : (heardE l now) = 0
    · rw [if_pos he]
      have he1 : ((heardE l now) != 0) = false := by simp [he]
      clear he
      go_enter Try.func24, Try.ntmps24
      go_upto_region 1 with fail
      rw [HWA.out]
      clear HWA
      go_upto_region 2 with (first | (with_reducible refine wpList_load_row (o := ⟨some 11, _, _, _, _, _⟩) rfl 24 _ rfl (w.heap.size) rfl 24 (lkC l A c) (0, 0) _ (H0.out).raw11 Try.underlying24 rfl (by kernel_rfl) ?_) | (with_reducible refine wpList_store_rowTo (o := ⟨none, _, _, _, _, _⟩) rfl 24 _ _ rfl rfl (wa.heap.size) (lkC l A c) rfl rfl 24 _ (HMK.out).raw11 (by kernel_rfl) (by kernel_rfl) (by kernel_rfl) ?_))
      rw [HWB.out]
      clear HWB HMK H0
      have HK := Lib.hid (olk_heard (P := (fun b => P b ∧ b < w.heap.size)) l A c now wb HW.out HL.out)
      have k1 : wb.cell? ⟨w.heap.size + 1, 1, none⟩ = some (.int .i64 T) := HP1.out.cell 1
      have k2 : wb.cell? ⟨w.heap.size + 1, 2, none⟩ = some (.int .i64 now) := HP1.out.cell 2
      have k3 : wb.cell? ⟨w.heap.size + 1, 3, none⟩ = some (.slice B xs.length d) := HP1.out.cell 3
      have HQ := Lib.hid (fun W (hW : Below wb.heap.size wb W) => And.intro (HP0.out.under hW HP0.out.lt) (And.intro (HP2.out.under hW HP2.out.lt) (And.intro (HP3.out.under hW HP3.out.lt) (And.intro (HW.out.under hW) (HBB.out.trans (hW.mono HBB.out.size))))))
      go_wp2_with (with_reducible refine wpList_load_row (o := ⟨some 39, _, _, _, _, _⟩) rfl 24 _ rfl (w.heap.size) rfl 24 (lkC l A c) (0, 0) _ (HP0.out).raw11 Try.underlying24 rfl (by kernel_rfl) ?_)
      refine HK.out.mono ?_
      rintro e wc ⟨A1, c1, rfl, hwn, hbc⟩
      obtain ⟨q0, q2, q3, qw, qb⟩ := HQ.out wc hbc
      obtain ⟨hsz, hsza⟩ := HSZ.out
      have hbs := hbc.size
      obtain ⟨WW, hWW⟩ : ∃ WW, wc.setRow (wa.heap.size) (lkC (heardL l now) A1 c1) = WW := ⟨_, rfl⟩
      have HQ0 : Hid (Has WW (w.heap.size) 24 (lkC l A c)) := Lib.hid (by rw [← hWW]; exact has_rowo11 q0 (by omega) _)
      have HZ : Hid (Has WW (w.heap.size + 1 + 1) 24 #[.int .i64 0, .int .i64 0, .int .i64 0, .int .i64 0, .slice none 0 0]) := Lib.hid (by rw [← hWW]; exact has_rowo11 q2 (by omega) _)
      have HY : Hid (Has WW (wa.heap.size) 24 (lkC (heardL l now) A1 c1)) := Lib.hid (by rw [← hWW]; exact has_row11 q3 _)
      have HB : Hid (Below w.heap.size w WW) := Lib.hid (by rw [← hWW]; exact below_row (g := wa.heap.size) qb (by omega) _)
      have HWS : Hid (WsR (fun b => P b ∧ b < w.heap.size) WW A l.ws.length c l.ws) := Lib.hid (by rw [← hWW]; exact qw.row (by intro h; have := h.2; omega) _)
      have HWN : Hid (WsR (fun b => (P b ∧ b < w.heap.size) ∨ (w.heap.size + 4 ≤ b ∧ b < WW.heap.size)) WW A1 (heardL l now).ws.length c1 (heardL l now).ws) := Lib.hid (by rw [← hWW]; exact ((hwn.wide (fun b h => h.imp id fun h => (show w.heap.size + 4 ≤ b ∧ b < (wc.setRow (wa.heap.size) (lkC (heardL l now) A1 c1)).heap.size from ⟨by omega, by simpa using h.2⟩))).row (by rintro (⟨_, h⟩ | ⟨h, _⟩) <;> omega) _))
      have HWW := Lib.hid hWW
      have HQ3 := Lib.hid q3
      have hws : w.heap.size + 4 ≤ WW.heap.size := by rw [← hWW]; simpa using (by omega : w.heap.size + 4 ≤ wc.heap.size)
      clear hWW q0 q2 q3 qw qb hwn hbc HK HQ HP0 HP1 HP2 HP3 HW HX HBB k0 k1 k2 k3 hbs hsz hsza
      go_upto_region 14 with (with_reducible refine wpList_store_rowTo (o := ⟨none, _, _, _, _, _⟩) rfl 24 _ _ rfl rfl (wa.heap.size) (lkC (heardL l now) A1 c1) rfl rfl 24 _ (HQ3.out).raw11 (by kernel_rfl) (by kernel_rfl) (by kernel_rfl) ?_)
      rw [HWW.out]
      clear HWW HQ3
      have HR := Lib.hid (has_row11 HZ.out (lkC (heardL l now) A1 c1))
      have HBF := Lib.hid (below_row (g := w.heap.size + 1 + 1) HB.out (by omega) (lkC (heardL l now) A1 c1))
      have hss : (WW.setRow (w.heap.size + 1 + 1) (lkC (heardL l now) A1 c1)).heap.size = WW.heap.size := by simp
      have HS := Lib.hid (show WsR (Nw P w (WW.setRow (w.heap.size + 1 + 1) (lkC (heardL l now) A1 c1))) (WW.setRow (w.heap.size + 1 + 1) (lkC (heardL l now) A1 c1)) A1 (heardL l now).ws.length c1 (heardL l now).ws from (HWN.out.row (g := w.heap.size + 1 + 1) (by rintro (⟨_, h⟩ | ⟨h, _⟩) <;> omega) _).wide (fun b h => h.elim (fun h => .inl h.1) (fun h => .inr ⟨by omega, by omega⟩)))
      go_wp2_with (first | (with_reducible refine wpList_load_row (o := ⟨some 59, _, _, _, _, _⟩) rfl 24 _ rfl (wa.heap.size) rfl 24 (lkC (heardL l now) A1 c1) (0, 0) _ (HY.out).raw11 Try.underlying24 rfl (by kernel_rfl) ?_) | (with_reducible refine wpList_store_rowTo (o := ⟨none, _, _, _, _, _⟩) rfl 24 _ _ rfl rfl (w.heap.size + 1 + 1) (lkC (heardL l now) A1 c1) rfl rfl 24 _ (HZ.out).raw11 (by kernel_rfl) (by kernel_rfl) (by kernel_rfl) ?_))
      refine bodyPost_ret (results_rtt12 rfl _ _ (w.heap.size + 1 + 1) 24 _ _ rfl HR.out Try.underlying24 rfl (by kernel_rfl)) rfl ?_
      exact ⟨A1, c1, none, 0, rfl, HS.out, LsR.nil _, HBF.out⟩
    · rw [if_neg he]
      have he1 : ((heardE l now) != 0) = true := by simp [he]
      clear he
      go_enter Try.func24, Try.ntmps24
      go_upto_region 1 with fail
      rw [HWA.out]
      clear HWA
      go_upto_region 2 with (first | (with_reducible refine wpList_load_row (o := ⟨some 11, _, _, _, _, _⟩) rfl 24 _ rfl (w.heap.size) rfl 24 (lkC l A c) (0, 0) _ (H0.out).raw11 Try.underlying24 rfl (by kernel_rfl) ?_) | (with_reducible refine wpList_store_rowTo (o := ⟨none, _, _, _, _, _⟩) rfl 24 _ _ rfl rfl (wa.heap.size) (lkC l A c) rfl rfl 24 _ (HMK.out).raw11 (by kernel_rfl) (by kernel_rfl) (by kernel_rfl) ?_))
      rw [HWB.out]
      clear HWB HMK H0
      have HK := Lib.hid (olk_heard (P := (fun b => P b ∧ b < w.heap.size)) l A c now wb HW.out HL.out)
      have k1 : wb.cell? ⟨w.heap.size + 1, 1, none⟩ = some (.int .i64 T) := HP1.out.cell 1
      have k2 : wb.cell? ⟨w.heap.size + 1, 2, none⟩ = some (.int .i64 now) := HP1.out.cell 2
      have k3 : wb.cell? ⟨w.heap.size + 1, 3, none⟩ = some (.slice B xs.length d) := HP1.out.cell 3
      have HQ := Lib.hid (fun W (hW : Below wb.heap.size wb W) => And.intro (HP0.out.under hW HP0.out.lt) (And.intro (HP2.out.under hW HP2.out.lt) (And.intro (HP3.out.under hW HP3.out.lt) (And.intro (HW.out.under hW) (HBB.out.trans (hW.mono HBB.out.size))))))
      go_wp2_with (with_reducible refine wpList_load_row (o := ⟨some 39, _, _, _, _, _⟩) rfl 24 _ rfl (w.heap.size) rfl 24 (lkC l A c) (0, 0) _ (HP0.out).raw11 Try.underlying24 rfl (by kernel_rfl) ?_)
      refine HK.out.mono ?_
      rintro e wc ⟨A1, c1, rfl, hwn, hbc⟩
      obtain ⟨q0, q2, q3, qw, qb⟩ := HQ.out wc hbc
      obtain ⟨hsz, hsza⟩ := HSZ.out
      have hbs := hbc.size
      obtain ⟨WW, hWW⟩ : ∃ WW, wc.setRow (wa.heap.size) (lkC (heardL l now) A1 c1) = WW := ⟨_, rfl⟩
      have HQ0 : Hid (Has WW (w.heap.size) 24 (lkC l A c)) := Lib.hid (by rw [← hWW]; exact has_rowo11 q0 (by omega) _)
      have HZ : Hid (Has WW (w.heap.size + 1 + 1) 24 #[.int .i64 0, .int .i64 0, .int .i64 0, .int .i64 0, .slice none 0 0]) := Lib.hid (by rw [← hWW]; exact has_rowo11 q2 (by omega) _)
      have HY : Hid (Has WW (wa.heap.size) 24 (lkC (heardL l now) A1 c1)) := Lib.hid (by rw [← hWW]; exact has_row11 q3 _)
      have HB : Hid (Below w.heap.size w WW) := Lib.hid (by rw [← hWW]; exact below_row (g := wa.heap.size) qb (by omega) _)
      have HWS : Hid (WsR (fun b => P b ∧ b < w.heap.size) WW A l.ws.length c l.ws) := Lib.hid (by rw [← hWW]; exact qw.row (by intro h; have := h.2; omega) _)
      have HWN : Hid (WsR (fun b => (P b ∧ b < w.heap.size) ∨ (w.heap.size + 4 ≤ b ∧ b < WW.heap.size)) WW A1 (heardL l now).ws.length c1 (heardL l now).ws) := Lib.hid (by rw [← hWW]; exact ((hwn.wide (fun b h => h.imp id fun h => (show w.heap.size + 4 ≤ b ∧ b < (wc.setRow (wa.heap.size) (lkC (heardL l now) A1 c1)).heap.size from ⟨by omega, by simpa using h.2⟩))).row (by rintro (⟨_, h⟩ | ⟨h, _⟩) <;> omega) _))
      have HWW := Lib.hid hWW
      have HQ3 := Lib.hid q3
      have hws : w.heap.size + 4 ≤ WW.heap.size := by rw [← hWW]; simpa using (by omega : w.heap.size + 4 ≤ wc.heap.size)
      clear hWW q0 q2 q3 qw qb hwn hbc HK HQ HP0 HP1 HP2 HP3 HW HX HBB k0 k1 k2 k3 hbs hsz hsza
      go_upto_region 14 with (with_reducible refine wpList_store_rowTo (o := ⟨none, _, _, _, _, _⟩) rfl 24 _ _ rfl rfl (wa.heap.size) (lkC (heardL l now) A1 c1) rfl rfl 24 _ (HQ3.out).raw11 (by kernel_rfl) (by kernel_rfl) (by kernel_rfl) ?_)
      rw [HWW.out]
      clear HWW HQ3
      have HR := Lib.hid (has_row11 HZ.out (lkC l A c))
      have HBF := Lib.hid (below_row (g := w.heap.size + 1 + 1) HB.out (by omega) (lkC l A c))
      have HS := Lib.hid (show WsR (Nw P w (WW.setRow (w.heap.size + 1 + 1) (lkC l A c))) (WW.setRow (w.heap.size + 1 + 1) (lkC l A c)) A l.ws.length c l.ws from ((HWS.out).row (g := w.heap.size + 1 + 1) (by intro h; have := h.2; omega) _).wide (fun b h => .inl h.1))
      go_wp2_with (first | (with_reducible refine wpList_load_row (o := ⟨some 58, _, _, _, _, _⟩) rfl 24 _ rfl (w.heap.size) rfl 24 (lkC l A c) (0, 0) _ (HQ0.out).raw11 Try.underlying24 rfl (by kernel_rfl) ?_) | (with_reducible refine wpList_store_rowTo (o := ⟨none, _, _, _, _, _⟩) rfl 24 _ _ rfl rfl (w.heap.size + 1 + 1) (lkC l A c) rfl rfl 24 _ (HZ.out).raw11 (by kernel_rfl) (by kernel_rfl) (by kernel_rfl) ?_))
      refine bodyPost_ret (results_rtt12 rfl _ _ (w.heap.size + 1 + 1) 24 _ _ rfl HR.out Try.underlying24 rfl (by kernel_rfl)) rfl ?_
      exact ⟨A, c, none, 0, rfl, HS.out, LsR.nil _, HBF.out⟩
  rw [if_neg hk2]
  have e2 : (kd == 2) = false := by simp [hk2]
  by_cases hk3 : kd = 3
  · rw [if_pos hk3]
    have e3 : (kd == 3) = true := by simp [hk3]
    clear hk0
    clear hk1
    clear hk2
    clear hk3
    by_cases he : (tickE l now) = 0
    · rw [if_pos he]
      have he1 : ((tickE l now) != 0) = false := by simp [he]
      clear he
      go_enter Try.func24, Try.ntmps24
      go_upto_region 1 with fail
      rw [HWA.out]
      clear HWA
      go_upto_region 2 with (first | (with_reducible refine wpList_load_row (o := ⟨some 11, _, _, _, _, _⟩) rfl 24 _ rfl (w.heap.size) rfl 24 (lkC l A c) (0, 0) _ (H0.out).raw11 Try.underlying24 rfl (by kernel_rfl) ?_) | (with_reducible refine wpList_store_rowTo (o := ⟨none, _, _, _, _, _⟩) rfl 24 _ _ rfl rfl (wa.heap.size) (lkC l A c) rfl rfl 24 _ (HMK.out).raw11 (by kernel_rfl) (by kernel_rfl) (by kernel_rfl) ?_))
      rw [HWB.out]
      clear HWB HMK H0
      have HK := Lib.hid (olk_tick (P := (fun b => P b ∧ b < w.heap.size)) l A c now wb HW.out HL.out)
      have k1 : wb.cell? ⟨w.heap.size + 1, 1, none⟩ = some (.int .i64 T) := HP1.out.cell 1
      have k2 : wb.cell? ⟨w.heap.size + 1, 2, none⟩ = some (.int .i64 now) := HP1.out.cell 2
      have k3 : wb.cell? ⟨w.heap.size + 1, 3, none⟩ = some (.slice B xs.length d) := HP1.out.cell 3
      have HQ := Lib.hid (fun W (hW : Below wb.heap.size wb W) => And.intro (HP0.out.under hW HP0.out.lt) (And.intro (HP2.out.under hW HP2.out.lt) (And.intro (HP3.out.under hW HP3.out.lt) (And.intro (HW.out.under hW) (HBB.out.trans (hW.mono HBB.out.size))))))
      go_wp2_with (with_reducible refine wpList_load_row (o := ⟨some 48, _, _, _, _, _⟩) rfl 24 _ rfl (w.heap.size) rfl 24 (lkC l A c) (0, 0) _ (HP0.out).raw11 Try.underlying24 rfl (by kernel_rfl) ?_)
      refine HK.out.mono ?_
      rintro e wc ⟨A1, c1, B1, d1, rfl, hwn, hln, hbc⟩
      obtain ⟨q0, q2, q3, qw, qb⟩ := HQ.out wc hbc
      obtain ⟨hsz, hsza⟩ := HSZ.out
      have hbs := hbc.size
      obtain ⟨WW, hWW⟩ : ∃ WW, wc.setRow (wa.heap.size) (lkC (tickL l now) A1 c1) = WW := ⟨_, rfl⟩
      have HQ0 : Hid (Has WW (w.heap.size) 24 (lkC l A c)) := Lib.hid (by rw [← hWW]; exact has_rowo11 q0 (by omega) _)
      have HZ : Hid (Has WW (w.heap.size + 1 + 1) 24 #[.int .i64 0, .int .i64 0, .int .i64 0, .int .i64 0, .slice none 0 0]) := Lib.hid (by rw [← hWW]; exact has_rowo11 q2 (by omega) _)
      have HY : Hid (Has WW (wa.heap.size) 24 (lkC (tickL l now) A1 c1)) := Lib.hid (by rw [← hWW]; exact has_row11 q3 _)
      have HB : Hid (Below w.heap.size w WW) := Lib.hid (by rw [← hWW]; exact below_row (g := wa.heap.size) qb (by omega) _)
      have HWS : Hid (WsR (fun b => P b ∧ b < w.heap.size) WW A l.ws.length c l.ws) := Lib.hid (by rw [← hWW]; exact qw.row (by intro h; have := h.2; omega) _)
      have HWN : Hid (WsR (fun b => (P b ∧ b < w.heap.size) ∨ (w.heap.size + 4 ≤ b ∧ b < WW.heap.size)) WW A1 (tickL l now).ws.length c1 (tickL l now).ws) := Lib.hid (by rw [← hWW]; exact ((hwn.wide (fun b h => h.imp id fun h => (show w.heap.size + 4 ≤ b ∧ b < (wc.setRow (wa.heap.size) (lkC (tickL l now) A1 c1)).heap.size from ⟨by omega, by simpa using h.2⟩))).row (by rintro (⟨_, h⟩ | ⟨h, _⟩) <;> omega) _))
      have HLN : Hid (LsR (fun b => (P b ∧ b < w.heap.size) ∨ (w.heap.size + 4 ≤ b ∧ b < WW.heap.size)) WW B1 (tickA l now).length d1 (tickA l now)) := Lib.hid (by rw [← hWW]; exact (LsR.row (P := fun b => (P b ∧ b < w.heap.size) ∨ (w.heap.size + 4 ≤ b ∧ b < (wc.setRow (wa.heap.size) (lkC (tickL l now) A1 c1)).heap.size)) (hln.wide12 (fun b h => h.imp id fun h => ⟨by omega, by simpa using h.2⟩)) (by rintro (⟨_, h⟩ | ⟨h, _⟩) <;> omega) _))
      have HWW := Lib.hid hWW
      have HQ3 := Lib.hid q3
      have hws : w.heap.size + 4 ≤ WW.heap.size := by rw [← hWW]; simpa using (by omega : w.heap.size + 4 ≤ wc.heap.size)
      clear hWW q0 q2 q3 qw qb hwn hbc HK HQ HP0 HP1 HP2 HP3 HW HX HBB k0 k1 k2 k3 hbs hsz hsza hln
      go_upto_region 14 with (with_reducible refine wpList_store_rowTo (o := ⟨none, _, _, _, _, _⟩) rfl 24 _ _ rfl rfl (wa.heap.size) (lkC (tickL l now) A1 c1) rfl rfl 24 _ (HQ3.out).raw11 (by kernel_rfl) (by kernel_rfl) (by kernel_rfl) ?_)
      rw [HWW.out]
      clear HWW HQ3
      have HR := Lib.hid (has_row11 HZ.out (lkC (tickL l now) A1 c1))
      have HBF := Lib.hid (below_row (g := w.heap.size + 1 + 1) HB.out (by omega) (lkC (tickL l now) A1 c1))
      have hss : (WW.setRow (w.heap.size + 1 + 1) (lkC (tickL l now) A1 c1)).heap.size = WW.heap.size := by simp
      have HS := Lib.hid (show WsR (Nw P w (WW.setRow (w.heap.size + 1 + 1) (lkC (tickL l now) A1 c1))) (WW.setRow (w.heap.size + 1 + 1) (lkC (tickL l now) A1 c1)) A1 (tickL l now).ws.length c1 (tickL l now).ws from (HWN.out.row (g := w.heap.size + 1 + 1) (by rintro (⟨_, h⟩ | ⟨h, _⟩) <;> omega) _).wide (fun b h => h.elim (fun h => .inl h.1) (fun h => .inr ⟨by omega, by omega⟩)))
      have HS2 := Lib.hid (show LsR (Nw P w (WW.setRow (w.heap.size + 1 + 1) (lkC (tickL l now) A1 c1))) (WW.setRow (w.heap.size + 1 + 1) (lkC (tickL l now) A1 c1)) B1 (tickA l now).length d1 (tickA l now) from (HLN.out.row (g := w.heap.size + 1 + 1) (by rintro (⟨_, h⟩ | ⟨h, _⟩) <;> omega) _).wide12 (fun b h => h.elim (fun h => .inl h.1) (fun h => .inr ⟨by omega, by omega⟩)))
      go_wp2_with (first | (with_reducible refine wpList_load_row (o := ⟨some 59, _, _, _, _, _⟩) rfl 24 _ rfl (wa.heap.size) rfl 24 (lkC (tickL l now) A1 c1) (0, 0) _ (HY.out).raw11 Try.underlying24 rfl (by kernel_rfl) ?_) | (with_reducible refine wpList_store_rowTo (o := ⟨none, _, _, _, _, _⟩) rfl 24 _ _ rfl rfl (w.heap.size + 1 + 1) (lkC (tickL l now) A1 c1) rfl rfl 24 _ (HZ.out).raw11 (by kernel_rfl) (by kernel_rfl) (by kernel_rfl) ?_))
      refine bodyPost_ret (results_rtt12 rfl _ _ (w.heap.size + 1 + 1) 24 _ _ rfl HR.out Try.underlying24 rfl (by kernel_rfl)) rfl ?_
      exact ⟨A1, c1, B1, d1, rfl, HS.out, HS2.out, HBF.out⟩
    · rw [if_neg he]
      have he1 : ((tickE l now) != 0) = true := by simp [he]
      clear he
      go_enter Try.func24, Try.ntmps24
      go_upto_region 1 with fail
      rw [HWA.out]
      clear HWA
      go_upto_region 2 with (first | (with_reducible refine wpList_load_row (o := ⟨some 11, _, _, _, _, _⟩) rfl 24 _ rfl (w.heap.size) rfl 24 (lkC l A c) (0, 0) _ (H0.out).raw11 Try.underlying24 rfl (by kernel_rfl) ?_) | (with_reducible refine wpList_store_rowTo (o := ⟨none, _, _, _, _, _⟩) rfl 24 _ _ rfl rfl (wa.heap.size) (lkC l A c) rfl rfl 24 _ (HMK.out).raw11 (by kernel_rfl) (by kernel_rfl) (by kernel_rfl) ?_))
      rw [HWB.out]
      clear HWB HMK H0
      have HK := Lib.hid (olk_tick (P := (fun b => P b ∧ b < w.heap.size)) l A c now wb HW.out HL.out)
      have k1 : wb.cell? ⟨w.heap.size + 1, 1, none⟩ = some (.int .i64 T) := HP1.out.cell 1
      have k2 : wb.cell? ⟨w.heap.size + 1, 2, none⟩ = some (.int .i64 now) := HP1.out.cell 2
      have k3 : wb.cell? ⟨w.heap.size + 1, 3, none⟩ = some (.slice B xs.length d) := HP1.out.cell 3
      have HQ := Lib.hid (fun W (hW : Below wb.heap.size wb W) => And.intro (HP0.out.under hW HP0.out.lt) (And.intro (HP2.out.under hW HP2.out.lt) (And.intro (HP3.out.under hW HP3.out.lt) (And.intro (HW.out.under hW) (HBB.out.trans (hW.mono HBB.out.size))))))
      go_wp2_with (with_reducible refine wpList_load_row (o := ⟨some 48, _, _, _, _, _⟩) rfl 24 _ rfl (w.heap.size) rfl 24 (lkC l A c) (0, 0) _ (HP0.out).raw11 Try.underlying24 rfl (by kernel_rfl) ?_)
      refine HK.out.mono ?_
      rintro e wc ⟨A1, c1, B1, d1, rfl, hwn, hln, hbc⟩
      obtain ⟨q0, q2, q3, qw, qb⟩ := HQ.out wc hbc
      obtain ⟨hsz, hsza⟩ := HSZ.out
      have hbs := hbc.size
      obtain ⟨WW, hWW⟩ : ∃ WW, wc.setRow (wa.heap.size) (lkC (tickL l now) A1 c1) = WW := ⟨_, rfl⟩
      have HQ0 : Hid (Has WW (w.heap.size) 24 (lkC l A c)) := Lib.hid (by rw [← hWW]; exact has_rowo11 q0 (by omega) _)
      have HZ : Hid (Has WW (w.heap.size + 1 + 1) 24 #[.int .i64 0, .int .i64 0, .int .i64 0, .int .i64 0, .slice none 0 0]) := Lib.hid (by rw [← hWW]; exact has_rowo11 q2 (by omega) _)
      have HY : Hid (Has WW (wa.heap.size) 24 (lkC (tickL l now) A1 c1)) := Lib.hid (by rw [← hWW]; exact has_row11 q3 _)
      have HB : Hid (Below w.heap.size w WW) := Lib.hid (by rw [← hWW]; exact below_row (g := wa.heap.size) qb (by omega) _)
      have HWS : Hid (WsR (fun b => P b ∧ b < w.heap.size) WW A l.ws.length c l.ws) := Lib.hid (by rw [← hWW]; exact qw.row (by intro h; have := h.2; omega) _)
      have HWN : Hid (WsR (fun b => (P b ∧ b < w.heap.size) ∨ (w.heap.size + 4 ≤ b ∧ b < WW.heap.size)) WW A1 (tickL l now).ws.length c1 (tickL l now).ws) := Lib.hid (by rw [← hWW]; exact ((hwn.wide (fun b h => h.imp id fun h => (show w.heap.size + 4 ≤ b ∧ b < (wc.setRow (wa.heap.size) (lkC (tickL l now) A1 c1)).heap.size from ⟨by omega, by simpa using h.2⟩))).row (by rintro (⟨_, h⟩ | ⟨h, _⟩) <;> omega) _))
      have HLN : Hid (LsR (fun b => (P b ∧ b < w.heap.size) ∨ (w.heap.size + 4 ≤ b ∧ b < WW.heap.size)) WW B1 (tickA l now).length d1 (tickA l now)) := Lib.hid (by rw [← hWW]; exact (LsR.row (P := fun b => (P b ∧ b < w.heap.size) ∨ (w.heap.size + 4 ≤ b ∧ b < (wc.setRow (wa.heap.size) (lkC (tickL l now) A1 c1)).heap.size)) (hln.wide12 (fun b h => h.imp id fun h => ⟨by omega, by simpa using h.2⟩)) (by rintro (⟨_, h⟩ | ⟨h, _⟩) <;> omega) _))
      have HWW := Lib.hid hWW
      have HQ3 := Lib.hid q3
      have hws : w.heap.size + 4 ≤ WW.heap.size := by rw [← hWW]; simpa using (by omega : w.heap.size + 4 ≤ wc.heap.size)
      clear hWW q0 q2 q3 qw qb hwn hbc HK HQ HP0 HP1 HP2 HP3 HW HX HBB k0 k1 k2 k3 hbs hsz hsza hln
      go_upto_region 14 with (with_reducible refine wpList_store_rowTo (o := ⟨none, _, _, _, _, _⟩) rfl 24 _ _ rfl rfl (wa.heap.size) (lkC (tickL l now) A1 c1) rfl rfl 24 _ (HQ3.out).raw11 (by kernel_rfl) (by kernel_rfl) (by kernel_rfl) ?_)
      rw [HWW.out]
      clear HWW HQ3
      have HR := Lib.hid (has_row11 HZ.out (lkC l A c))
      have HBF := Lib.hid (below_row (g := w.heap.size + 1 + 1) HB.out (by omega) (lkC l A c))
      have HS := Lib.hid (show WsR (Nw P w (WW.setRow (w.heap.size + 1 + 1) (lkC l A c))) (WW.setRow (w.heap.size + 1 + 1) (lkC l A c)) A l.ws.length c l.ws from ((HWS.out).row (g := w.heap.size + 1 + 1) (by intro h; have := h.2; omega) _).wide (fun b h => .inl h.1))
      go_wp2_with (first | (with_reducible refine wpList_load_row (o := ⟨some 58, _, _, _, _, _⟩) rfl 24 _ rfl (w.heap.size) rfl 24 (lkC l A c) (0, 0) _ (HQ0.out).raw11 Try.underlying24 rfl (by kernel_rfl) ?_) | (with_reducible refine wpList_store_rowTo (o := ⟨none, _, _, _, _, _⟩) rfl 24 _ _ rfl rfl (w.heap.size + 1 + 1) (lkC l A c) rfl rfl 24 _ (HZ.out).raw11 (by kernel_rfl) (by kernel_rfl) (by kernel_rfl) ?_))
      refine bodyPost_ret (results_rtt12 rfl _ _ (w.heap.size + 1 + 1) 24 _ _ rfl HR.out Try.underlying24 rfl (by kernel_rfl)) rfl ?_
      exact ⟨A, c, none, 0, rfl, HS.out, LsR.nil _, HBF.out⟩
  rw [if_neg hk3]
  have e3 : (kd == 3) = false := by simp [hk3]
  clear hk0 hk1 hk2 hk3
  go_enter Try.func24, Try.ntmps24
  go_upto_region 1 with fail
  rw [HWA.out]
  clear HWA
  go_upto_region 2 with (first | (with_reducible refine wpList_load_row (o := ⟨some 11, _, _, _, _, _⟩) rfl 24 _ rfl (w.heap.size) rfl 24 (lkC l A c) (0, 0) _ (H0.out).raw11 Try.underlying24 rfl (by kernel_rfl) ?_) | (with_reducible refine wpList_store_rowTo (o := ⟨none, _, _, _, _, _⟩) rfl 24 _ _ rfl rfl (wa.heap.size) (lkC l A c) rfl rfl 24 _ (HMK.out).raw11 (by kernel_rfl) (by kernel_rfl) (by kernel_rfl) ?_))
  rw [HWB.out]
  clear HWB HMK H0
  obtain ⟨WW, hWW⟩ : ∃ WW, WW = wb := ⟨_, rfl⟩
  subst hWW
  have HZ := HP2; have HQ0 := HP0; have HB := HBB; have HWS := HW
  have hws : w.heap.size + 4 ≤ WW.heap.size := by have := HSZ.out.1; omega
  go_upto_region 14 with fail
  have HR := Lib.hid (has_row11 HZ.out (lkC l A c))
  have HBF := Lib.hid (below_row (g := w.heap.size + 1 + 1) HB.out (by omega) (lkC l A c))
  have HS := Lib.hid (show WsR (Nw P w (WW.setRow (w.heap.size + 1 + 1) (lkC l A c))) (WW.setRow (w.heap.size + 1 + 1) (lkC l A c)) A l.ws.length c l.ws from ((HWS.out).row (g := w.heap.size + 1 + 1) (by intro h; have := h.2; omega) _).wide (fun b h => .inl h.1))
  go_wp2_with (first | (with_reducible refine wpList_load_row (o := ⟨some 59, _, _, _, _, _⟩) rfl 24 _ rfl (wa.heap.size) rfl 24 (lkC l A c) (0, 0) _ (HP3.out).raw11 Try.underlying24 rfl (by kernel_rfl) ?_) | (with_reducible refine wpList_store_rowTo (o := ⟨none, _, _, _, _, _⟩) rfl 24 _ _ rfl rfl (w.heap.size + 1 + 1) (lkC l A c) rfl rfl 24 _ (HZ.out).raw11 (by kernel_rfl) (by kernel_rfl) (by kernel_rfl) ?_))
  refine bodyPost_ret (results_rtt12 rfl _ _ (w.heap.size + 1 + 1) 24 _ _ rfl HR.out Try.underlying24 rfl (by kernel_rfl)) rfl ?_
  exact ⟨A, c, none, 0, rfl, HS.out, LsR.nil _, HBF.out⟩
end Go.Proofs.Ytbohoejikihnfaa
