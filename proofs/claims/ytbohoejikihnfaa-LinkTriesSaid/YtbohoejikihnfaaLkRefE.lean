/-
  linesideref12, by contract: Tick.
-/
import Derived.Test.YtbohoejikihnfaaLkRefD

import Derived.BigQuiet

namespace Go.Proofs.Ytbohoejikihnfaa

open Go.RowKit

open Go.Great

theorem tick_bounds {l : L0} {now : Int} (h : (mayL l && isT now) = true) : l.ws.length ≤ 8 ∧ (1 ≤ l.period ∧ l.period ≤ 1048576) ∧ (1 ≤ l.quiet ∧ l.quiet ≤ 1048576) ∧ (0 ≤ l.heard ∧ l.heard ≤ 4294967294) ∧ (0 ≤ now ∧ now ≤ 4294967294) ∧ ∀ x ∈ l.ws, 0 ≤ x.tries ∧ x.tries ≤ 20 := by
  unfold mayL headOk at h
  simp only [Bool.and_eq_true, decide_eq_true_eq, isT_iff, List.all_eq_true] at h
  refine ⟨by omega, by omega, by omega, by omega, by omega, fun x hx => ?_⟩
  have := h.1.2.2.1 x hx
  unfold okW at this
  simp only [Bool.and_eq_true, decide_eq_true_eq] at this
  omega
theorem any_step12 (F : W0 → Bool) {ws : List W0} {j : Nat} {x : W0} (hx : ws[j]? = some x) : (ws.take (j + 1)).any F = ((ws.take j).any F || F x) := by
  obtain ⟨h, e⟩ := List.getElem?_eq_some_iff.1 hx
  rw [List.take_succ_eq_append_getElem h, List.any_append, e]; simp
theorem map_step12 {α : Type} (F : W0 → α) {ws : List W0} {j : Nat} {x : W0} (hx : ws[j]? = some x) : (ws.take (j + 1)).map F = (ws.take j).map F ++ [F x] := by
  obtain ⟨h, e⟩ := List.getElem?_eq_some_iff.1 hx
  rw [List.take_succ_eq_append_getElem h, List.map_append, e]; simp
/-- What Tick answers. -/
def TickPost (P : Nat → Prop) (l : L0) (now : Int) (w : World) (e : Ending) (w' : World) : Prop :=
  ∃ A' c' B' d', e = .returned (.tuple #[.agg (lkC (tickL l now) A' c'), .slice B' (tickA l now).length d', .bool (tickLost l now), .int .i64 (tickE l now)]) ∧ WsR (Nw P w w') w' A' (tickL l now).ws.length c' (tickL l now).ws ∧ LsR (Nw P w w') w' B' (tickA l now).length d' (tickA l now) ∧ Below w.heap.size w w'

set_option maxRecDepth 100000 in
set_option maxHeartbeats 16000000 in
theorem rtick_any {P : Nat → Prop} (l : L0) (A : Option Addr) (c : Nat) (now : Int) (w : World) (hw : WsR P w A l.ws.length c l.ws) :
    Calls Try.prog 18 #[.agg (lkC l A c), .int .i64 now] w (TickPost P l now w) := by
  obtain ⟨wa, hwa⟩ : ∃ wa, (w.alloc (.cells (lkC l A c) 24)).alloc (.cells #[.int .i64 0, .int .i64 0, .int .i64 0, .int .i64 0, .slice none 0 0] 24) = wa := ⟨_, rfl⟩
  have hbwa : Below w.heap.size w wa := by rw [← hwa]; exact ((Below.refl _ _).alloc (Nat.le_refl _) _).alloc (by simp) _
  have h0 : Has wa (w.heap.size) 24 (lkC l A c) := by rw [← hwa]; exact ((Has.made _ _ _).beside _)
  have h1 : Has wa (w.heap.size + 1) 24 #[.int .i64 0, .int .i64 0, .int .i64 0, .int .i64 0, .slice none 0 0] := by rw [← hwa]; exact (has_at11 (by simp))
  have HWA := Lib.hid hwa; have HBWA := Lib.hid hbwa
  have HM := Lib.hid (fun W (hW : WsR P W A l.ws.length c l.ws) => rmay12_any l A c W hW)
  have HW0 := Lib.hid hw
  have HW := Lib.hid (hw.under hbwa)
  have HC := Lib.hid (fun W (hW : Below wa.heap.size wa W) => And.intro (h0.under hW h0.lt) (And.intro (h1.under hW h1.lt) (HW.out.under hW)))
  have HP := Lib.hid h0
  clear hwa hbwa h0 h1 hw
  have HT := Lib.hid (fun W => rtime_any now W)
  have hr1 : (mayL l && isT now) = false → tickL l now = l0z ∧ tickA l now = [] ∧ tickLost l now = false ∧ tickE l now = 1 := fun h => by
    refine ⟨by unfold tickL; rw [h]; rfl, by unfold tickA; rw [h]; rfl, by unfold tickLost; rw [h]; rfl, by unfold tickE; rw [h]; rfl⟩
  have hr2 : (mayL l && isT now) = true → lostB l now = true → tickL l now = l ∧ tickA l now = [] ∧ tickLost l now = true ∧ tickE l now = 0 := fun h h2 => by
    refine ⟨by unfold tickL; rw [h, h2]; rfl, by unfold tickA; rw [h, h2]; rfl, by unfold tickLost; rw [h, h2]; rfl, by unfold tickE; rw [h]; rfl⟩
  have hr3 : (mayL l && isT now) = true → lostB l now = false → tickL l now = { l with ws := l.ws.map (tellW l now) } ∧ tickA l now = (l.ws.filter fun x => decide (x.due ≤ now)).map (·.body) ∧ tickLost l now = false ∧ tickE l now = 0 := fun h h2 => by
    refine ⟨by unfold tickL; rw [h, h2]; rfl, by unfold tickA; rw [h, h2]; rfl, by unfold tickLost; rw [h, h2]; rfl, by unfold tickE; rw [h]; rfl⟩
  have HR1 := Lib.hid hr1; have HR2 := Lib.hid hr2; have HR3 := Lib.hid hr3
  have HTB := Lib.hid (fun h => tick_bounds (l := l) (now := now) h)
  clear hr1 hr2 hr3
  unfold TickPost
  generalize tickL l now = r at *
  generalize tickA l now = ra at *
  generalize tickLost l now = rl at *
  generalize tickE l now = re at *
  by_cases hfit : (mayL l && isT now) = true
  rotate_left
  · rw [Bool.not_eq_true] at hfit
    obtain ⟨rfl, rfl, rfl, rfl⟩ := HR1.out hfit
    clear HR1 HR2 HR3 HTB
    generalize mayL l = b1 at *
    generalize isT now = b2 at *
    cases b1 with
    | false =>
      go_enter Try.func18, Try.ntmps18
      go_upto_region 1 with fail
      rw [HWA.out]
      clear HWA
      go_wp2_with (with_reducible refine wpList_load_row (o := ⟨some 16, _, _, _, _, _⟩) rfl 24 _ rfl (w.heap.size) rfl 24 (lkC l A c) (0, 0) _ (HP.out).raw11 Try.underlying24 rfl (by kernel_rfl) ?_)
      refine (HM.out _ (HW.out.under (Below.refl _ _))).mono ?_
      rintro e w1 ⟨rfl, hb1⟩
      obtain ⟨hp, hz, hw1⟩ := HC.out w1 hb1
      have HP1 := Lib.hid hp; have HZ1 := Lib.hid hz; have HW1 := Lib.hid hw1
      have HB1 := Lib.hid (HBWA.out.trans (hb1.mono HBWA.out.size))
      clear hp hz hw1 hb1 HP HC HM HBWA HW
      go_wp2_with fail
      refine (HT.out _).mono ?_
      rintro e w' ⟨rfl, rfl⟩
      have HR := Lib.hid (has_row11 HZ1.out #[.int .i64 0, .int .i64 0, .int .i64 0, .int .i64 0, .slice none 0 0])
      have HBF := Lib.hid (below_row (g := w.heap.size + 1) HB1.out (by omega) #[.int .i64 0, .int .i64 0, .int .i64 0, .int .i64 0, .slice none 0 0])
      go_wp2_with (with_reducible refine wpList_store_rowTo (o := ⟨none, _, _, _, _, _⟩) rfl 24 _ _ rfl rfl (w.heap.size + 1) #[.int .i64 0, .int .i64 0, .int .i64 0, .int .i64 0, .slice none 0 0] rfl rfl 24 _ (HZ1.out).raw11 (by kernel_rfl) (by kernel_rfl) (by kernel_rfl) ?_)
      refine bodyPost_ret (results_rttt11 rfl _ _ (w.heap.size + 1) 24 _ _ rfl HR.out Try.underlying24 rfl (by kernel_rfl)) rfl ?_
      exact ⟨none, 0, none, 0, rfl, WsR.nil _, LsR.nil _, HBF.out⟩
    | true =>
      cases b2 with
      | false =>
        go_enter Try.func18, Try.ntmps18
        go_upto_region 1 with fail
        rw [HWA.out]
        clear HWA
        go_wp2_with (with_reducible refine wpList_load_row (o := ⟨some 16, _, _, _, _, _⟩) rfl 24 _ rfl (w.heap.size) rfl 24 (lkC l A c) (0, 0) _ (HP.out).raw11 Try.underlying24 rfl (by kernel_rfl) ?_)
        refine (HM.out _ (HW.out.under (Below.refl _ _))).mono ?_
        rintro e w1 ⟨rfl, hb1⟩
        obtain ⟨hp, hz, hw1⟩ := HC.out w1 hb1
        have HP1 := Lib.hid hp; have HZ1 := Lib.hid hz; have HW1 := Lib.hid hw1
        have HB1 := Lib.hid (HBWA.out.trans (hb1.mono HBWA.out.size))
        clear hp hz hw1 hb1 HP HC HM HBWA HW
        go_wp2_with fail
        refine (HT.out _).mono ?_
        rintro e w' ⟨rfl, rfl⟩
        have HR := Lib.hid (has_row11 HZ1.out #[.int .i64 0, .int .i64 0, .int .i64 0, .int .i64 0, .slice none 0 0])
        have HBF := Lib.hid (below_row (g := w.heap.size + 1) HB1.out (by omega) #[.int .i64 0, .int .i64 0, .int .i64 0, .int .i64 0, .slice none 0 0])
        go_wp2_with (with_reducible refine wpList_store_rowTo (o := ⟨none, _, _, _, _, _⟩) rfl 24 _ _ rfl rfl (w.heap.size + 1) #[.int .i64 0, .int .i64 0, .int .i64 0, .int .i64 0, .slice none 0 0] rfl rfl 24 _ (HZ1.out).raw11 (by kernel_rfl) (by kernel_rfl) (by kernel_rfl) ?_)
        refine bodyPost_ret (results_rttt11 rfl _ _ (w.heap.size + 1) 24 _ _ rfl HR.out Try.underlying24 rfl (by kernel_rfl)) rfl ?_
        exact ⟨none, 0, none, 0, rfl, WsR.nil _, LsR.nil _, HBF.out⟩
      | true => exact absurd hfit (by decide)
  obtain ⟨hn8, hpb, hqb, hhb, hnb, htr⟩ := HTB.out hfit
  obtain ⟨h4a, h4b⟩ : mayL l = true ∧ isT now = true := by simpa using hfit
  rw [h4a] at HM
  rw [h4b] at HT
  clear h4a h4b HTB HR1
  have HR2' := Lib.hid (HR2.out hfit); have HR3' := Lib.hid (HR3.out hfit); have HTR := Lib.hid htr
  obtain ⟨D, hD⟩ : ∃ D, now + l.period = D := ⟨_, rfl⟩
  have hrD : wrap64 (now + l.period) = D := by rw [← hD]; exact IntWalk.wrap64_in _ (by omega)
  obtain ⟨Q, hQ⟩ : ∃ Q, l.heard + l.quiet = Q := ⟨_, rfl⟩
  have hrQ : wrap64 (l.heard + l.quiet) = Q := by rw [← hQ]; exact IntWalk.wrap64_in _ (by omega)
  have HLO : Hid (lostB l now = (decide (Q < now) || (l.ws.take l.ws.length).any (overB l now))) := Lib.hid (by unfold lostB; rw [hQ, List.take_length])
  have HTE : Hid (∀ x : W0, tellW l now x = if x.due ≤ now then ⟨x.t, D, x.tries + 1, x.body⟩ else x) := Lib.hid (fun x => by unfold tellW; rw [hD])
  have HRD := Lib.hid hrD
  clear HR2 HR3 hfit hpb hqb hhb hnb htr hD hQ hrD
  go_enter Try.func18, Try.ntmps18
  go_upto_region 1 with fail
  rw [HWA.out]
  clear HWA
  go_wp2_with (with_reducible refine wpList_load_row (o := ⟨some 16, _, _, _, _, _⟩) rfl 24 _ rfl (w.heap.size) rfl 24 (lkC l A c) (0, 0) _ (HP.out).raw11 Try.underlying24 rfl (by kernel_rfl) ?_)
  refine (HM.out _ (HW.out.under (Below.refl _ _))).mono ?_
  rintro e w1 ⟨rfl, hb1⟩
  obtain ⟨hp, hz, hw1⟩ := HC.out w1 hb1
  have HP1 := Lib.hid hp; have HZ1 := Lib.hid hz; have HW1 := Lib.hid hw1
  have HB1 := Lib.hid (HBWA.out.trans (hb1.mono HBWA.out.size))
  clear hp hz hw1 hb1 HP HC HM HBWA HW
  go_wp2_with fail
  refine (HT.out _).mono ?_
  rintro e w' ⟨rfl, rfl⟩
  have a2 : w1.cell? ⟨w.heap.size, 2, none⟩ = some (.int .i64 l.quiet) := HP1.out.cell 2
  have a3 : w1.cell? ⟨w.heap.size, 3, none⟩ = some (.int .i64 l.heard) := HP1.out.cell 3
  go_upto_region 6 with fail
  clear a2 a3 hrQ HT
  obtain ⟨n, hn⟩ : ∃ n, l.ws.length = n := ⟨_, rfl⟩
  rw [hn] at hn8 HLO
  have HN := Lib.hid hn
  have HXW : Hid (WsR P w A n c l.ws) := Lib.hid (hn ▸ HW0.out)
  have HXP : Hid (Has w1 w.heap.size 24 #[.int .i64 l.period, .int .i64 l.most, .int .i64 l.quiet, .int .i64 l.heard, .slice A n c]) := Lib.hid (hn ▸ HP1.out)
  have m4 : w1.cell? ⟨w.heap.size, 4, none⟩ = some (.slice A n c) := HXP.out.cell 4
  clear HW1 HW0 hn
  go_wp2
  clear m4
  generalize decide (Q < now) = bq at *
  skip
  go_loopg [10, 11] n (fun kk v10 v11 wl => ∃ j : Nat, j ≤ n ∧ n - j ≤ kk ∧ v10 = .bool (bq || (l.ws.take j).any (overB l now)) ∧ v11 = .int .i64 j ∧ ∃ q, wl = w1.drewN q)
  case atStart => exact ⟨0, by omega, by omega, by simp, rfl, 0, rfl⟩
  case round =>
    obtain ⟨j, hj, hjk, rfl, rfl, q, hq⟩ := hrel
    have HPR : Hid (Has wr w.heap.size 24 #[.int .i64 l.period, .int .i64 l.most, .int .i64 l.quiet, .int .i64 l.heard, .slice A n c]) := Lib.hid (by rw [hq]; exact HXP.out.draws q)
    have HZR : Hid (Has wr (w.heap.size + 1) 24 #[.int .i64 0, .int .i64 0, .int .i64 0, .int .i64 0, .slice none 0 0]) := Lib.hid (by rw [hq]; exact HZ1.out.draws q)
    have HBR : Hid (Below w.heap.size w wr) := Lib.hid (by rw [hq]; exact below_draws HB1.out q)
    have HQ := Lib.hid hq
    clear hq
    have e4 : wr.cell? ⟨w.heap.size, 4, none⟩ = some (.slice A n c) := HPR.out.cell 4
    by_cases hlt : j < n
    · have e1 : wr.cell? ⟨w.heap.size, 1, none⟩ = some (.int .i64 l.most) := HPR.out.cell 1
      obtain ⟨x, hx⟩ : ∃ x, l.ws[j]? = some x := ⟨_, List.getElem?_eq_getElem (by rw [HN.out]; exact hlt)⟩
      obtain ⟨bk, off, v, rfl, -, -, -, d1, d2, -⟩ := HXW.out.body HBR.out hx
      have hst := any_step12 (overB l now) hx
      have HST := Lib.hid hst
      have hov : overB l now x = (decide (x.due ≤ now) && (x.tries == l.most)) := rfl
      have HOV := Lib.hid hov
      obtain ⟨T, due, tries, body⟩ := x
      dsimp only at d1 d2
      have y0 : (0 : Int) ≤ j := by omega
      have y1 : (j : Int) < n := by omega
      clear hx hst hov v
      obtain ⟨b0, hb0⟩ : ∃ b0, (bq || (l.ws.take j).any (overB l now)) = b0 := ⟨_, rfl⟩
      rw [hb0]
      have HBB := Lib.hid hb0
      clear hb0
      have hnew : (bq || (l.ws.take (j + 1)).any (overB l now)) = (b0 || (decide (due ≤ now) && (tries == l.most))) := by rw [HST.out, HOV.out, ← Bool.or_assoc, HBB.out]
      have HNW := Lib.hid hnew
      clear hnew HST HOV HBB
      obtain ⟨mo, hmo⟩ : ∃ mo, (tries == l.most) = mo := ⟨_, rfl⟩
      rw [hmo] at HNW
      go_upto_region 9 with fail
      cases b0 with
      | true =>
        go_quiet (fail)
        go_wp2
        go_roundg (gk - 1)
        case measure => omega
        case rel => exact ⟨j + 1, by omega, by omega, by rw [HNW.out]; first | rfl | simp, by go_num, q + nq, by rw [HQ.out, World.drewN_drewN]⟩
      | false =>
        by_cases hdue : due ≤ now
        · have hdd : decide (due ≤ now) = true := decide_eq_true hdue
          rw [hdd] at HNW
          go_quiet (fail)
          go_wp2
          go_roundg (gk - 1)
          case measure => omega
          case rel => exact ⟨j + 1, by omega, by omega, by rw [HNW.out]; first | rfl | simp, by go_num, q + nq, by rw [HQ.out, World.drewN_drewN]⟩
        have hdd : decide (due ≤ now) = false := decide_eq_false hdue
        rw [hdd] at HNW
        go_quiet (fail)
        go_wp2
        go_roundg (gk - 1)
        case measure => omega
        case rel => exact ⟨j + 1, by omega, by omega, by rw [HNW.out]; first | rfl | simp, by go_num, q + nq, by rw [HQ.out, World.drewN_drewN]⟩
    obtain rfl : j = n := by omega
    have x1 : ¬ (j : Int) < j := by omega
    rw [← HLO.out]
    clear HLO HQ
    obtain ⟨w2, hw2⟩ : ∃ w2, w2 = wr := ⟨_, rfl⟩
    subst hw2
    obtain ⟨bl, hbl⟩ : ∃ bl, lostB l now = bl := ⟨_, rfl⟩
    rw [hbl] at HR2' HR3' ⊢
    clear hbl
    go_upto_region 10 with fail
    clear e4 x1
    cases bl with
    | true =>
      obtain ⟨rfl, rfl, rfl, rfl⟩ := HR2'.out (by first | rfl | trivial)
      clear HR2' HR3'
      have HPL : Hid (Has w2 w.heap.size 24 (lkC r A c)) := Lib.hid (by have h0 := HPR.out; rw [← HN.out] at h0; exact h0)
      have HR := Lib.hid (has_row11 HZR.out (lkC r A c))
      have hbf := below_row (g := w.heap.size + 1) HBR.out (by omega) (lkC r A c)
      have HBF := Lib.hid hbf
      have HSD : Hid (WsR (Nw P w (w2.setRow (w.heap.size + 1) (lkC r A c))) (w2.setRow (w.heap.size + 1) (lkC r A c)) A r.ws.length c r.ws) := Lib.hid (by have h0 := (HXW.out.under hbf).wide (Q := Nw P w (w2.setRow (w.heap.size + 1) (lkC r A c))) (fun _ => .inl); rw [← HN.out] at h0; exact h0)
      clear hbf
      go_wp2_with (first | (with_reducible refine wpList_load_row (o := ⟨some 64, _, _, _, _, _⟩) rfl 24 _ rfl (w.heap.size) rfl 24 (lkC r A c) (0, 0) _ (HPL.out).raw11 Try.underlying24 rfl (by kernel_rfl) ?_) | (with_reducible refine wpList_store_rowTo (o := ⟨none, _, _, _, _, _⟩) rfl 24 _ _ rfl rfl (w.heap.size + 1) (lkC r A c) rfl rfl 24 _ (HZR.out).raw11 (by kernel_rfl) (by kernel_rfl) (by kernel_rfl) ?_))
      refine bodyPost_ret (results_rttt11 rfl _ _ (w.heap.size + 1) 24 _ _ rfl HR.out Try.underlying24 rfl (by kernel_rfl)) rfl ?_
      exact ⟨A, c, none, 0, rfl, HSD.out, LsR.nil _, HBF.out⟩
    | false =>
      obtain ⟨rfl, rfl, rfl, rfl⟩ := HR3'.out (by first | rfl | trivial)
      clear HR2' HR3'
      have hgl : w.heap.size + 1 < w2.heap.size := HZR.out.lt
      have HP1 : Hid (Has w2 w.heap.size 24 (lkC l A c)) := Lib.hid (by have h0 := HPR.out; rw [← HN.out] at h0; exact h0)
      have hmk : Has (w2.alloc (.cells #[.int .i64 0, .int .i64 0, .int .i64 0, .int .i64 0, .slice none 0 0] 24)) w2.heap.size 24 #[.int .i64 0, .int .i64 0, .int .i64 0, .int .i64 0, .slice none 0 0] := Has.made _ _ _
      obtain ⟨w3, hw3⟩ : ∃ w3, (w2.alloc (.cells #[.int .i64 0, .int .i64 0, .int .i64 0, .int .i64 0, .slice none 0 0] 24)).setRow w2.heap.size (lkC l A c) = w3 := ⟨_, rfl⟩
      have ho2 : Has w3 w2.heap.size 24 (lkC l A c) := by rw [← hw3]; exact has_row11 hmk _
      have hbw : Below w2.heap.size w2 w3 := by rw [← hw3]; exact below_row (g := w2.heap.size) ((Below.refl _ _).alloc (Nat.le_refl _) _) (Nat.le_refl _) _
      have HSZ_w3 := Lib.hid (show w3.heap.size = w2.heap.size + 1 by rw [← hw3]; simp)
      have HMK := Lib.hid hmk
      have HFR := Lib.hid hw3
      clear hw3 hmk
      go_upto_region 13 with (first | (with_reducible refine wpList_load_row (o := ⟨some 65, _, _, _, _, _⟩) rfl 24 _ rfl (w.heap.size) rfl 24 (lkC l A c) (0, 0) _ (HP1.out).raw11 Try.underlying24 rfl (by kernel_rfl) ?_) | (with_reducible refine wpList_store_rowTo (o := ⟨none, _, _, _, _, _⟩) rfl 24 _ _ rfl rfl (w2.heap.size) (lkC l A c) rfl rfl 24 _ (HMK.out).raw11 (by kernel_rfl) (by kernel_rfl) (by kernel_rfl) ?_))
      rw [HFR.out]
      clear HFR HMK
      have hpb := HP1.out.under hbw HP1.out.lt
      clear hpb
      have b4 : w3.cell? ⟨w2.heap.size, 4, none⟩ = some (.slice A l.ws.length c) := ho2.cell 4
      have z4 := ho2.thaw 4
      obtain ⟨w4, hw4⟩ : ∃ w4, w3.setCell ⟨w2.heap.size, 4, none⟩ (.slice none 0 0) = w4 := ⟨_, rfl⟩
      have ho4 : Has w4 (w2.heap.size) 24 #[.int .i64 l.period, .int .i64 l.most, .int .i64 l.quiet, .int .i64 l.heard, .slice none 0 0] := by rw [← hw4]; exact (ho2.stored 4 _).is11 (by kernel_rfl)
      have hb4 : Below (w2.heap.size) w2 w4 := by rw [← hw4]; exact hbw.setCell (p := ⟨w2.heap.size, 4, none⟩) (Nat.le_refl _) _
      have HW4 := Lib.hid hw4; have HO4 := Lib.hid ho4; have HB4 := Lib.hid hb4
      clear hw4 ho4 hb4 ho2 hbw HSZ_w3
      go_upto_region 14 with fail
      rw [HW4.out]
      clear HW4 b4 z4
      go_wp2
      go_loopg [13, 14] j (fun kk v13 v14 wl => ∃ (i k : Nat) (A2 : Option Addr) (c2 : Nat) (A3 : Option Addr) (c3 : Nat), i ≤ j ∧ j - i ≤ kk ∧ k ≤ i ∧ v13 = .slice A3 k c3 ∧ v14 = .int .i64 i ∧ Has wl (w2.heap.size) 24 #[.int .i64 l.period, .int .i64 l.most, .int .i64 l.quiet, .int .i64 l.heard, .slice A2 i c2] ∧ OwW P (w2.heap.size) w wl A2 i c2 ((l.ws.take i).map (tellW l now)) ∧ OwL P (w2.heap.size) w wl A3 k c3 (((l.ws.take i).filter fun x => decide (x.due ≤ now)).map (·.body)) ∧ Below (w2.heap.size) w2 wl)
      case atStart => exact ⟨0, 0, none, 0, none, 0, by omega, by omega, by omega, rfl, rfl, HO4.out, by simpa using OwW.nil _ _ _, by simpa using OwL.nil _ _ _, HB4.out⟩
      case round =>
        obtain ⟨i, k, A2, c2, A3, c3, hi, hik, hki, rfl, rfl, hs, ho, hol, hbl⟩ := hrel
        have HS := Lib.hid hs; have HO := Lib.hid ho; have HOL := Lib.hid hol; have HBL := Lib.hid hbl
        have e4 : wr.cell? ⟨w.heap.size, 4, none⟩ = some (.slice A j c) := (HPR.out.under hbl HPR.out.lt).cell 4
        clear hs ho hol hbl HO4 HB4
        by_cases hlt : i < j
        rotate_left
        · obtain rfl : i = j := by omega
          have x1 : ¬ (i : Int) < i := by omega
          have hz := HZR.out.under HBL.out HZR.out.lt
          have HZ5 := Lib.hid hz
          have HR := Lib.hid (has_row11 hz #[.int .i64 l.period, .int .i64 l.most, .int .i64 l.quiet, .int .i64 l.heard, .slice A2 i c2])
          have hbf := below_row (g := w.heap.size + 1) (HBR.out.trans (HBL.out.mono HBR.out.size)) (by omega) #[.int .i64 l.period, .int .i64 l.most, .int .i64 l.quiet, .int .i64 l.heard, .slice A2 i c2]
          have hob := HO.out.keep (only_row11 wr (w.heap.size + 1) #[.int .i64 l.period, .int .i64 l.most, .int .i64 l.quiet, .int .i64 l.heard, .slice A2 i c2]) hz (by decide)
          have hol := HOL.out.keep (only_row11 wr (w.heap.size + 1) #[.int .i64 l.period, .int .i64 l.most, .int .i64 l.quiet, .int .i64 l.heard, .slice A2 i c2]) hz (by decide)
          have hta : l.ws.take i = l.ws := List.take_of_length_le (by rw [HN.out]; exact Nat.le_refl _)
          rw [hta] at hob hol
          have hsd := hob.done hbf (by omega)
          have hld := hol.done hbf (by omega)
          have HSD := Lib.hid hsd; have HLD := Lib.hid hld; have HBF := Lib.hid hbf; have HLN := Lib.hid hsd.len; have HLL := Lib.hid hld.len
          clear hz hbf hob hol hta hsd hld
          go_wp2_with (first | (with_reducible refine wpList_load_row (o := ⟨some 103, _, _, _, _, _⟩) rfl 24 _ rfl (w2.heap.size) rfl 24 #[.int .i64 l.period, .int .i64 l.most, .int .i64 l.quiet, .int .i64 l.heard, .slice A2 i c2] (0, 0) _ (HS.out).raw11 Try.underlying24 rfl (by kernel_rfl) ?_) | (with_reducible refine wpList_store_rowTo (o := ⟨none, _, _, _, _, _⟩) rfl 24 _ _ rfl rfl (w.heap.size + 1) #[.int .i64 l.period, .int .i64 l.most, .int .i64 l.quiet, .int .i64 l.heard, .slice A2 i c2] rfl rfl 24 _ (HZ5.out).raw11 (by kernel_rfl) (by kernel_rfl) (by kernel_rfl) ?_))
          refine bodyPost_ret (results_rttt11 rfl _ _ (w.heap.size + 1) 24 _ _ rfl HR.out Try.underlying24 rfl (by kernel_rfl)) rfl ?_
          refine ⟨A2, c2, A3, c3, ?_, ?_, ?_, HBF.out⟩
          · rw [show lkC { l with ws := l.ws.map (tellW l now) } A2 c2 = #[.int .i64 l.period, .int .i64 l.most, .int .i64 l.quiet, .int .i64 l.heard, .slice A2 i c2] from by unfold lkC; dsimp only; rw [HLN.out]]; first | (rw [HLL.out]; rfl) | (have e_ := HLL.out; rw [List.length_map] at e_; rw [e_]; rfl)
          · first | (rw [HLN.out]; exact HSD.out) | (have e_ := HLN.out; rw [List.length_map] at e_; rw [e_]; exact HSD.out)
          · first | (rw [HLL.out]; exact HLD.out) | (have e_ := HLL.out; rw [List.length_map] at e_; rw [e_]; exact HLD.out)
        obtain ⟨x, hx⟩ : ∃ x, l.ws[i]? = some x := ⟨_, List.getElem?_eq_getElem (by rw [HN.out]; exact hlt)⟩
        obtain ⟨bk, off, v, rfl, _, hbody, d0, d1, d2, d3⟩ := HXW.out.body (HBR.out.trans (HBL.out.mono HBR.out.size)) hx
        have htr := HTR.out x (List.mem_of_getElem? hx)
        have hmp := map_step12 (tellW l now) hx
        rw [HTE.out] at hmp
        have hfl := filter_step12 (fun x => decide (x.due ≤ now)) l.ws hx
        obtain ⟨T, due, tries, body⟩ := x
        dsimp only at d0 d1 d2 d3 hbody htr hmp hfl
        have HMP := Lib.hid hmp; have HFL := Lib.hid hfl
        obtain ⟨BA, bc, rfl, hbs, hb8⟩ := hbody
        have HBY : Hid (BodyR P w (.slice BA body.length bc) body) := Lib.hid ⟨BA, bc, rfl, hbs, hb8⟩
        have y0 : (0 : Int) ≤ i := by omega
        have y1 : (i : Int) < j := by omega
        clear hx hmp hfl hbs hb8
        obtain ⟨g, hg⟩ : ∃ g, wr.heap.size = g := ⟨_, rfl⟩
        obtain ⟨wx, hwx⟩ : ∃ wx, wr.alloc (.cells #[.int .i64 T, .int .i64 due, .int .i64 tries, .slice BA body.length bc] 48) = wx := ⟨_, rfl⟩
        have hgx : Has wx g 48 #[.int .i64 T, .int .i64 due, .int .i64 tries, .slice BA body.length bc] := by rw [← hwx]; exact has_at11 hg
        have hbx : Below wr.heap.size wr wx := by rw [← hwx]; exact (Below.refl _ _).alloc (Nat.le_refl _) _
        have hgo : w2.heap.size < g := by rw [← hg]; exact HS.out.lt
        have HG := Lib.hid hg; have HWX := Lib.hid hwx; have HGX := Lib.hid hgx; have HBX := Lib.hid hbx
        clear hwx hgx hbx hg
        go_upto_region 19 with fail
        simp only [HG.out]
        rw [HWX.out]
        clear HWX d0 d1 d2 d3 e4
        have HSX := Lib.hid (HS.out.under HBX.out HS.out.lt)
        have HOLX := Lib.hid (HOL.out.under HBX.out)
        have HBLX := Lib.hid (HBL.out.trans (HBX.out.mono HBL.out.size))
        have k1 : wx.cell? ⟨g, 1, none⟩ = some (.int .i64 due) := HGX.out.cell 1
        by_cases hdue : due ≤ now
        rotate_left
        · have hdd : decide (due ≤ now) = false := decide_eq_false hdue
          have hmp := HMP.out
          rw [if_neg hdue] at hmp
          have hfl := HFL.out
          rw [if_neg (by simp [hdue])] at hfl
          have HMP' := Lib.hid hmp; have HFL' := Lib.hid hfl
          clear hmp hfl HMP HFL htr
          have HSy := HSX; have HGy := HGX; have HOLy := HOLX; have HBLy := HBLX
          go_upto_region 23 with fail
          clear k1 hdue hdd
          obtain ⟨l2, hl2, hk2, ho2, hp2⟩ := (HO.out.under HBX.out)
          have hpw := pushW (⟨T, due, tries, body⟩, (.slice BA body.length bc)) HBY.out ho2 HBLy.out.size (by omega)
          dsimp only at hpw
          obtain ⟨hN, hO, hC, h1, hBD⟩ := hpw
          have HL2 := Lib.hid hl2; have HK2 := Lib.hid hk2; have HP2' := Lib.hid hp2
          have HG2 := Lib.hid (HSy.out.beside (.cells #[.int .i64 T, .int .i64 due, .int .i64 tries, .slice BA body.length bc] 48))
          have HOL2 := Lib.hid (HOLy.out.under ((Below.refl _ _).alloc (Nat.le_refl _) (.cells #[.int .i64 T, .int .i64 due, .int .i64 tries, .slice BA body.length bc] 48)))
          have HBDW := Lib.hid (HBLy.out.alloc HBLy.out.size (.cells #[.int .i64 T, .int .i64 due, .int .i64 tries, .slice BA body.length bc] 48))
          have s4 : wx.cell? ⟨w2.heap.size, 4, none⟩ = some (.slice A2 i c2) := HSy.out.cell 4
          clear hl2 hk2 ho2 hp2
          go_wp2_with (first | (with_reducible refine wpList_load_row (o := ⟨some 99, _, _, _, _, _⟩) rfl 48 _ rfl (g) rfl 48 #[.int .i64 T, .int .i64 due, .int .i64 tries, .slice BA body.length bc] (0, 0) _ (HGy.out).raw11 Try.underlying48 rfl (by kernel_rfl) ?_) | (with_reducible refine wpList_push (o := ⟨some 101, _, _, _, _, _⟩) rfl (.tmp 98) (.tmp 100) 22 rfl (w2.heap.size) 48 (.agg #[.int .i64 0, .int .i64 0, .int .i64 0, .slice none 0 0]) 4 48 Try.underlying22 info_wait ?hz1 (by decide) A2 (i) c2 (cellsW l2) ?hs1 hO ⟨wx.heap.size, 0, none⟩ 1 1 (wtC (⟨T, due, tries, body⟩, (.slice BA body.length bc))) ?hx1 hN hC h1 hBD ?next1))
          all_goals try rfl
          case next1 =>
            intro A8 c8 wE ho8 hg8
            have hmE := HG2.out.grow hg8.out (fun e => own_apart hO.out HG2.out (by decide) e.symm)
            have r4 : wE.cell? ⟨w2.heap.size, 4, none⟩ = some (.slice A2 i c2) := hmE.cell 4
            have f4 : wE.frozen? ⟨w2.heap.size, 4, none⟩ = false := hmE.thaw 4
            have hlE := HOL2.out.aside hO.out (by decide) hg8.out
            have hbE := below_own HBDW.out HBDW.out.size hO.out (Nat.le_refl _) rfl hg8.out
            have hgF : wE.grownBy (wE.setCell ⟨w2.heap.size, 4, none⟩ (.slice A8 (i + 1) c8)) (some (w2.heap.size)) := only_store (only_refl _ _) rfl _
            have hoF := (OwW.snoc (x := ⟨T, due, tries, body⟩) HL2.out HK2.out HP2'.out HBY.out rfl ho8.out).keep hgF hmE (by decide)
            have hlF := hlE.keep hgF hmE (by decide)
            have hsF := (hmE.stored 4 (.slice A8 (i + 1) c8)).is11 (show _ = #[.int .i64 l.period, .int .i64 l.most, .int .i64 l.quiet, .int .i64 l.heard, .slice A8 (i + 1) c8] from by kernel_rfl)
            have hbF := hbE.setCell (p := ⟨w2.heap.size, 4, none⟩) (Nat.le_refl _) (.slice A8 (i + 1) c8)
            have HOF := Lib.hid hoF; have HLF := Lib.hid hlF; have HSF := Lib.hid hsF; have HBF := Lib.hid hbF
            clear hmE hlE hbE hgF hoF hlF hsF hbF ho8 hg8 hN hO hC h1 hBD HG2 HOL2 HBDW HL2 HK2 HP2' s4 HSy HGy HOLy HBLy
            go_wp2
            go_roundg (gk - 1)
            case measure => omega
            case rel => exact ⟨i + 1, k, A8, c8, A3, c3, by omega, by omega, by omega, rfl, by go_num, HSF.out, by rw [HMP'.out]; exact HOF.out, by rw [HFL'.out]; exact HLF.out, HBF.out⟩
        have hdd : decide (due ≤ now) = true := decide_eq_true hdue
        have hmp := HMP.out
        rw [if_pos hdue] at hmp
        have hfl := HFL.out
        rw [if_pos (by simp [hdue])] at hfl
        have hfl2 := congrArg (List.map (·.body)) hfl
        rw [List.map_append] at hfl2
        have HMP' := Lib.hid hmp; have HFL' := Lib.hid hfl2
        clear hmp hfl hfl2 HMP HFL
        have hrt : wrap64 (tries + 1) = tries + 1 := IntWalk.wrap64_in _ (by omega)
        have hrd := HRD.out
        have k2 : wx.cell? ⟨g, 2, none⟩ = some (.int .i64 tries) := HGX.out.cell 2
        have z1 := HGX.out.thaw 1
        have z2 := HGX.out.thaw 2
        have e0 : wx.cell? ⟨w.heap.size, 0, none⟩ = some (.int .i64 l.period) := ((HPR.out.under HBL.out HPR.out.lt).under HBX.out (Nat.lt_of_lt_of_le HPR.out.lt HBL.out.size)).cell 0
        obtain ⟨wy, hwy⟩ : ∃ wy, (wx.setCell ⟨g, 2, none⟩ (.int .i64 (tries + 1))).setCell ⟨g, 1, none⟩ (.int .i64 D) = wy := ⟨_, rfl⟩
        have hgy : Has wy g 48 #[.int .i64 T, .int .i64 D, .int .i64 (tries + 1), .slice BA body.length bc] := by rw [← hwy]; exact ((HGX.out.stored 2 _).stored 1 _).is11 (by kernel_rfl)
        have hsy : Has wy (w2.heap.size) 24 #[.int .i64 l.period, .int .i64 l.most, .int .i64 l.quiet, .int .i64 l.heard, .slice A2 i c2] := by rw [← hwy]; exact (HSX.out.apart (p := ⟨g, 2, none⟩) (by show _ ≠ g; omega) _).apart (p := ⟨g, 1, none⟩) (by show _ ≠ g; omega) _
        have hgg : wx.grownBy wy (some g) := by rw [← hwy]; exact only_store (p := ⟨g, 1, none⟩) (only_store (p := ⟨g, 2, none⟩) (only_refl _ _) rfl _) rfl _
        have hly := HOLX.out.keep hgg HGX.out (by decide)
        have hby : Below (w2.heap.size) w2 wy := by rw [← hwy]; exact (HBLX.out.setCell (p := ⟨g, 2, none⟩) (by show w2.heap.size ≤ g; omega) _).setCell (p := ⟨g, 1, none⟩) (by show w2.heap.size ≤ g; omega) _
        have hoy := HO.out.newer (Nat.le_of_eq HG.out) HBX.out hgg
        have HWY := Lib.hid hwy; have HGY := Lib.hid hgy; have HSY := Lib.hid hsy; have HLY := Lib.hid hly; have HBY2 := Lib.hid hby; have HOY := Lib.hid hoy
        clear hwy hgy hsy hly hby hoy hgg
        go_upto_region 22 with fail
        rw [HWY.out]
        clear HWY k1 k2 z1 z2 e0 hrt hrd hdue hdd
        have k3 : wy.cell? ⟨g, 3, none⟩ = some (.slice BA body.length bc) := HGY.out.cell 3
        obtain ⟨l3, hl3, hk3, ho3, hp3⟩ := HLY.out
        obtain ⟨hN, hO, hC, h1, hBD, hB5⟩ := push_facts11 (b := 24) 25 (.slice BA body.length bc) rfl ho3 HBY2.out HBY2.out.size (by omega) (by decide)
        have HL3 := Lib.hid hl3; have HK3 := Lib.hid hk3; have HP3 := Lib.hid hp3
        have HG3 := Lib.hid (HGY.out.beside (.cells #[(.slice BA body.length bc)] 25)); have HS3 := Lib.hid (HSY.out.beside (.cells #[(.slice BA body.length bc)] 25)); have HO3 := Lib.hid (HOY.out.under ((Below.refl _ _).alloc (Nat.le_refl _) (.cells #[(.slice BA body.length bc)] 25)))
        clear hl3 hk3 ho3 hp3
        go_wp2_with (with_reducible refine wpList_push (o := ⟨some 96, _, _, _, _, _⟩) rfl (.tmp 92) (.tmp 95) 35 rfl (w2.heap.size) 25 (.slice none 0 0) 1 24 Try.underlying35 info_u8s ?hzL (by decide) A3 k c3 (l3.map (·.2)) ?hsL hO ⟨wy.heap.size, 0, none⟩ 1 1 [(.slice BA body.length bc)] ?hxL hN hC h1 hBD ?nextL)
        all_goals try rfl
        case nextL =>
          intro A9 c9 wL ho9 hg9
          have hgL := HG3.out.grow hg9.out (fun e => own_apart hO.out HG3.out (by decide) e.symm)
          have hsL := HS3.out.grow hg9.out (fun e => own_apart hO.out HS3.out (by decide) e.symm)
          have hwL := HO3.out.aside hO.out (by decide) hg9.out
          have hlL := OwL.snoc (p := (body, (.slice BA body.length bc))) HL3.out HK3.out HP3.out HBY.out ho9.out
          have hbL := below_own hB5.out hBD.out.2.2 hO.out (Nat.le_refl _) rfl hg9.out
          have HGy := Lib.hid hgL; have HSy := Lib.hid hsL; have HOy := Lib.hid hwL; have HOLy := Lib.hid hlL; have HBLy := Lib.hid hbL
          clear hgL hsL hwL hlL hbL ho9 hg9 hN hO hC h1 hBD hB5 HL3 HK3 HP3 HG3 HS3 HO3 k3
          go_upto_region 23 with fail
          obtain ⟨l2, hl2, hk2, ho2, hp2⟩ := (HOy.out)
          have hpw := pushW (⟨T, D, tries + 1, body⟩, (.slice BA body.length bc)) HBY.out ho2 HBLy.out.size (by omega)
          dsimp only at hpw
          obtain ⟨hN, hO, hC, h1, hBD⟩ := hpw
          have HL2 := Lib.hid hl2; have HK2 := Lib.hid hk2; have HP2' := Lib.hid hp2
          have HG2 := Lib.hid (HSy.out.beside (.cells #[.int .i64 T, .int .i64 D, .int .i64 (tries + 1), .slice BA body.length bc] 48))
          have HOL2 := Lib.hid (HOLy.out.under ((Below.refl _ _).alloc (Nat.le_refl _) (.cells #[.int .i64 T, .int .i64 D, .int .i64 (tries + 1), .slice BA body.length bc] 48)))
          have HBDW := Lib.hid (HBLy.out.alloc HBLy.out.size (.cells #[.int .i64 T, .int .i64 D, .int .i64 (tries + 1), .slice BA body.length bc] 48))
          have s4 : wL.cell? ⟨w2.heap.size, 4, none⟩ = some (.slice A2 i c2) := HSy.out.cell 4
          clear hl2 hk2 ho2 hp2
          go_wp2_with (first | (with_reducible refine wpList_load_row (o := ⟨some 99, _, _, _, _, _⟩) rfl 48 _ rfl (g) rfl 48 #[.int .i64 T, .int .i64 D, .int .i64 (tries + 1), .slice BA body.length bc] (0, 0) _ (HGy.out).raw11 Try.underlying48 rfl (by kernel_rfl) ?_) | (with_reducible refine wpList_push (o := ⟨some 101, _, _, _, _, _⟩) rfl (.tmp 98) (.tmp 100) 22 rfl (w2.heap.size) 48 (.agg #[.int .i64 0, .int .i64 0, .int .i64 0, .slice none 0 0]) 4 48 Try.underlying22 info_wait ?hz2 (by decide) A2 (i) c2 (cellsW l2) ?hs2 hO ⟨wL.heap.size, 0, none⟩ 1 1 (wtC (⟨T, D, tries + 1, body⟩, (.slice BA body.length bc))) ?hx2 hN hC h1 hBD ?next2))
          all_goals try rfl
          case next2 =>
            intro A8 c8 wE ho8 hg8
            have hmE := HG2.out.grow hg8.out (fun e => own_apart hO.out HG2.out (by decide) e.symm)
            have r4 : wE.cell? ⟨w2.heap.size, 4, none⟩ = some (.slice A2 i c2) := hmE.cell 4
            have f4 : wE.frozen? ⟨w2.heap.size, 4, none⟩ = false := hmE.thaw 4
            have hlE := HOL2.out.aside hO.out (by decide) hg8.out
            have hbE := below_own HBDW.out HBDW.out.size hO.out (Nat.le_refl _) rfl hg8.out
            have hgF : wE.grownBy (wE.setCell ⟨w2.heap.size, 4, none⟩ (.slice A8 (i + 1) c8)) (some (w2.heap.size)) := only_store (only_refl _ _) rfl _
            have hoF := (OwW.snoc (x := ⟨T, D, tries + 1, body⟩) HL2.out HK2.out HP2'.out HBY.out rfl ho8.out).keep hgF hmE (by decide)
            have hlF := hlE.keep hgF hmE (by decide)
            have hsF := (hmE.stored 4 (.slice A8 (i + 1) c8)).is11 (show _ = #[.int .i64 l.period, .int .i64 l.most, .int .i64 l.quiet, .int .i64 l.heard, .slice A8 (i + 1) c8] from by kernel_rfl)
            have hbF := hbE.setCell (p := ⟨w2.heap.size, 4, none⟩) (Nat.le_refl _) (.slice A8 (i + 1) c8)
            have HOF := Lib.hid hoF; have HLF := Lib.hid hlF; have HSF := Lib.hid hsF; have HBF := Lib.hid hbF
            clear hmE hlE hbE hgF hoF hlF hsF hbF ho8 hg8 hN hO hC h1 hBD HG2 HOL2 HBDW HL2 HK2 HP2' s4 HSy HGy HOLy HBLy
            go_wp2
            go_roundg (gk - 1)
            case measure => omega
            case rel => exact ⟨i + 1, k + 1, A8, c8, A9, c9, by omega, by omega, by omega, rfl, by go_num, HSF.out, by rw [HMP'.out]; exact HOF.out, by rw [HFL'.out]; exact HLF.out, HBF.out⟩
end Go.Proofs.Ytbohoejikihnfaa
