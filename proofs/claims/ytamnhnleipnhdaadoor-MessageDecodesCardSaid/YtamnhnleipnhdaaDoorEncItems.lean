/-
  package packet's Items: the encoder's end; what recovers; Items.
-/
import Derived.Test.YtamnhnleipnhdaaDoorEncC

import Derived.Recover

namespace Go.Proofs.YtamnhnleipnhdaaDoor

open Go.RowKit

set_option maxHeartbeats 1000000 in
theorem finish_more (base lo hi g : Nat) (id : Int) (s : WS) (w : World) (h : EnAt base lo hi g id w s) (hV : s.V ≠ []) :
    Calls Tryd.prog 60 #[.pointer (some ⟨g, 0, none⟩)] w fun e w' => e = panE 20 ∧ w = w' := by
  obtain ⟨AV, nV, cV, AO, nO, cO, h1, h2⟩ := h.mem
  have hn : (0 : Int) < nV := by
    rw [← h2.v.len]
    have : s.V.length ≠ 0 := fun h => hV (List.eq_nil_of_length_eq_zero h)
    omega
  have k1 : w.cell? ⟨g, 1, none⟩ = some (.slice AV nV cV) := by rw [h1.cell]; rfl
  clear h1 h2 h hV
  unfold panE
  go_enter Tryd.func60, Tryd.ntmps60
  go_wp2
  exact ⟨rfl, rfl, rfl⟩
set_option maxHeartbeats 1000000 in
theorem finish_long (base lo hi g : Nat) (id : Int) (s : WS) (w : World) (h : EnAt base lo hi g id w s) (hV : s.V = []) (h8 : 8184 < totalOf s.out) :
    Calls Tryd.prog 60 #[.pointer (some ⟨g, 0, none⟩)] w fun e w' => e = panE 2 ∧ w = w' := by
  obtain ⟨AV, nV, cV, AO, nO, cO, h1, h2⟩ := h.mem
  have hn : nV = 0 := by rw [← h2.v.len, hV]; rfl
  subst hn
  have k1 : w.cell? ⟨g, 1, none⟩ = some (.slice AV 0 cV) := by rw [h1.cell]; rfl
  have k3 : w.cell? ⟨g, 3, none⟩ = some (.int .i64 (totalOf s.out)) := by rw [h1.cell]; rfl
  generalize totalOf s.out = T at *
  clear h1 h2 h hV
  unfold panE
  go_enter Tryd.func60, Tryd.ntmps60
  go_wp2
  exact ⟨rfl, rfl, rfl⟩
set_option maxRecDepth 100000 in
set_option maxHeartbeats 2000000 in
theorem finish_ok (base lo hi g : Nat) (id : Int) (s : WS) (w : World) (h : EnAt base lo hi g id w s) (hV : s.V = []) (h8 : ¬ 8184 < totalOf s.out) (p : Nat) (hp : s.place = p) (hpo : p < s.out.length) (hgp : (s.out.getD p (0, 0)).2 = 13) (hol : s.out.length ≤ 1000000) :
    Calls Tryd.prog 60 #[.pointer (some ⟨g, 0, none⟩)] w fun e w' => ∃ A m c, e = .returned (.slice A m c) ∧ SlP w' A m c (s.out.set p (totalOf s.out, 13)) ∧ (∀ a, A = some a → base ≤ a.block) ∧ Below base w w' := by
  obtain ⟨AV, nV, cV, AO, nO, cO, h1, h2⟩ := h.mem
  have hn : nV = 0 := by rw [← h2.v.len, hV]; rfl
  subst hn
  have hlo := h2.len
  obtain ⟨go, capo, hvo, hgo1, hgo2⟩ := h2.o.form (by omega)
  injection hvo with hvo1 _ hvo2
  subst hvo1
  subst hvo2
  have hoo := h2.o
  have hgl : base ≤ go := (hoo.lt go rfl).1
  have k1 : w.cell? ⟨g, 1, none⟩ = some (.slice AV 0 cV) := by rw [h1.cell]; rfl
  have k2 : w.cell? ⟨g, 2, none⟩ = some (.slice (some ⟨go, 0, none⟩) nO cO) := by rw [h1.cell]; rfl
  have k3 : w.cell? ⟨g, 3, none⟩ = some (.int .i64 (totalOf s.out)) := by rw [h1.cell]; rfl
  have k4 : w.cell? ⟨g, 4, none⟩ = some (.int .i64 (p : Int)) := by rw [h1.cell]; show some (Value.int .i64 s.place) = _; rw [hp]
  have hca : w.cell? ⟨go, p * 2, none⟩ = some (.int .i64 (s.out.getD p (0, 0)).1) := by
    rw [hoo.cellAt (p * 2) (by omega)]
    exact (pairs_at s.out p hpo).1
  have hfa : w.frozen? ⟨go, p * 2, none⟩ = false := hoo.frozenAt _
  have hne : g ≠ go := by
    have h := own_apart hoo h1 (by decide)
    intro e
    exact h (by rw [e]; rfl)
  have hood : w.drew.ownsRow base 53 2 (.slice (some ⟨go, 0, none⟩) nO cO) nO (pairs s.out) := hoo
  have hfin := hood.stored (p * 2) (.int .i64 (totalOf s.out))
  rw [pairs_set, hgp] at hfin
  have hhd : Has w.drew g 91 _ := h1.draw
  have kd2 : (w.drew.setCell ⟨go, p * 2, none⟩ (.int .i64 (totalOf s.out))).cell? ⟨g, 2, none⟩ = some (.slice (some ⟨go, 0, none⟩) nO cO) := by
    rw [(hhd.apart (p := ⟨go, p * 2, none⟩) hne (.int .i64 (totalOf s.out))).cell]; rfl
  have hcd : w.drew.cell? ⟨go, p * 2, none⟩ = some (.int .i64 (s.out.getD p (0, 0)).1) := hca
  have hfd : w.drew.frozen? ⟨go, p * 2, none⟩ = false := hfa
  have HFIN := Lib.hid hfin
  have HLN : Hid ((s.out.set p (totalOf s.out, 13)).length = nO) := Lib.hid (by rw [List.length_set]; exact hlo)
  have HBD := Lib.hid (below_own (below_draws (Below.refl base w) 1) h.sz.1 hood (Nat.le_refl _) rfl hfin.2)
  have x3 : (p : Int) < nO := by omega
  have x4 : (0 : Int) ≤ p := by omega
  have x5 : p ≤ 1000000 := by omega
  generalize (s.out.getD p (0, 0)).1 = y at *
  generalize totalOf s.out = T at *
  clear hfin hood hoo hhd h1 h2 h hV hgo1 hgo2 hp hgp hlo hpo
  go_enter Tryd.func60, Tryd.ntmps60
  go_wp2_with fail
  go_still_tail 14, (by kernel_rfl)
  change wpList _ _ _ _ _ w.drew
  go_wp2
  go_ret
  exact ⟨some ⟨go, 0, none⟩, nO, cO, rfl, ⟨HLN.out, Sl.of_own HFIN.out.1⟩, fun a h => by cases h; exact hgl, HBD.out⟩

theorem assert_errno (c : Int) (w : World) : (Instr.typeAssert (.iface 29 (.int .i64 c)) 20 29 false).run Tryd.prog w = .ok (.int .i64 c) w := by kernel_rfl
set_option maxRecDepth 100000 in
theorem catch_items (p : Addr) (x code : Int) (older : List PanicEntry) (w : World) (hc : w.cell? p = some (.int .i64 x)) (hz : w.frozen? p = false) :
    CallsD Tryd.prog 57 #[.pointer (some p)] (.panicking ({ v := .iface 29 (.int .i64 code), recovered := false } :: older)) w fun e u' w' =>
      e = .returned (.tuple #[]) ∧ u' = .panicking ({ v := .iface 29 (.int .i64 code), recovered := true } :: older) ∧ w' = w.setCell p (.int .i64 code) := by
  refine callsD_of_wpS Tryd.func57 rfl fun c₀ cs hu => ?_
  apply wpS_seq
  apply wpS_region
  simp [wpOpsS, go_sem, recoverD, hu, Tryd.ntmps57, Exit.thenS]
  apply wpS_seq
  apply wpS_region
  simp [wpOpsS, go_sem, Exit.thenS, Array.replicate]
  refine wpS_cond (t := true) (by simp [Act.eval]) ?_
  simp only [if_true]
  apply wpS_region
  simp [wpOpsS, go_sem, hc, hz, bodyPostS, results, Tryd.results57, assert_errno]

theorem idle_items (p : Addr) (w : World) :
    CallsD Tryd.prog 57 #[.pointer (some p)] .returning w fun e u' w' => e = .returned (.tuple #[]) ∧ u' = .returning ∧ w' = w := by
  refine callsD_of_wpS Tryd.func57 rfl fun c₀ cs hu => ?_
  apply wpS_seq
  apply wpS_region
  simp [wpOpsS, go_sem, recoverD, hu, Tryd.ntmps57, Exit.thenS]
  apply wpS_seq
  apply wpS_region
  simp [wpOpsS, go_sem, Exit.thenS, Array.replicate]
  refine wpS_cond (t := false) (by simp [Act.eval]) ?_
  simp only [Bool.false_eq_true, if_false]
  refine wpS_of_wp (wp_skip ?_)
  cases c₀
  simp_all [bodyPostS, results, Tryd.results57]
end Go.Proofs.YtamnhnleipnhdaaDoor
