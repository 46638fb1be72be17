/-
  linesideref13, by contract: route.
-/
import Derived.Test.YteioefgckigbcaaGreatTpRefC

import Derived.BigQuiet

import Derived.IntWalk

namespace Go.Proofs.YteioefgckigbcaaGreat

open Go.RowKit

open Go.Great

theorem route_long {t : Tp3} {r : Rt3} (h : r.id < 1 ∨ r.path.length = 0 ∨ 8 < r.path.length) : routeE t r = 1 := by
  unfold routeE
  rw [if_pos h]
theorem route_edge {t : Tp3} {r : Rt3} {m : Nat} {s : St3} (hm : r.path[m]? = some s) (h : edgeB t s.edge = false) : routeE t r = 1 := by
  unfold routeE
  split
  · rfl
  · rw [if_neg]
    intro hc
    rw [Bool.and_eq_true, List.all_eq_true] at hc
    have := hc.1 s (List.mem_of_getElem? hm)
    rw [h] at this
    cases this
theorem twice_iff {path : List St3} : twiceB path = false ↔ ∀ (m k : Nat) (x y : St3), m < k → path[m]? = some x → path[k]? = some y → x.edge ≠ y.edge := by
  unfold twiceB
  rw [decide_eq_false_iff_not, Classical.not_not]
  unfold List.Nodup
  rw [List.pairwise_iff_getElem]
  constructor
  · intro h m k x y hmk hx hy he
    obtain ⟨hm, ex⟩ := List.getElem?_eq_some_iff.1 hx
    obtain ⟨hk, ey⟩ := List.getElem?_eq_some_iff.1 hy
    refine h m k (by simpa using hm) (by simpa using hk) hmk ?_
    rw [List.getElem_map, List.getElem_map, ex, ey, he]
  · intro h m k hm hk hmk he
    rw [List.getElem_map, List.getElem_map] at he
    exact h m k _ _ hmk (List.getElem?_eq_getElem (by simpa using hm)) (List.getElem?_eq_getElem (by simpa using hk)) he
theorem route_twice {t : Tp3} {r : Rt3} {m k : Nat} {x y : St3} (hmk : m < k) (hx : r.path[m]? = some x) (hy : r.path[k]? = some y) (he : x.edge = y.edge) : routeE t r = 1 := by
  unfold routeE
  split
  · rfl
  · rw [if_neg]
    intro hc
    rw [Bool.and_eq_true] at hc
    have h2 : twiceB r.path = false := by simpa using hc.2
    exact twice_iff.1 h2 m k x y hmk hx hy he
theorem route_rest {t : Tp3} {r : Rt3} (h1 : ¬ (r.id < 1 ∨ r.path.length = 0 ∨ 8 < r.path.length)) (h2 : ∀ (m : Nat) (s : St3), r.path[m]? = some s → edgeB t s.edge = true) (h3 : ∀ (m k : Nat) (x y : St3), m < k → r.path[m]? = some x → r.path[k]? = some y → x.edge ≠ y.edge) :
    routeE t r = if lenE t r.path = 0 then (if r.gap < 0 ∨ lenN t r.path - 1 < r.gap ∨ r.timer < 1 ∨ 1000 < r.timer then 1 else if (r.path.all (hasBal t)) = true then 0 else 4) else lenE t r.path := by
  have h4 : (r.path.all fun s => edgeB t s.edge) = true := by
    rw [List.all_eq_true]
    intro s hs
    obtain ⟨m, hm, rfl⟩ := List.getElem_of_mem hs
    exact h2 m _ (List.getElem?_eq_getElem hm)
  unfold routeE
  rw [if_neg h1, h4, twice_iff.2 h3, if_pos (by decide)]
theorem take_any13 {l : List Bl3} {f : Bl3 → Bool} {k : Nat} {b : Bl3} (hb : l[k]? = some b) : (l.take (k + 1)).any f = ((l.take k).any f || f b) := by
  rw [List.take_add_one, hb, List.any_append]
  simp

set_option maxRecDepth 100000 in
set_option maxHeartbeats 8000000 in
theorem rroute1_any (t : Tp3) (a : TpA) (r : Rt3) (v : Value) (w : World) (ht : TopR w t a) (hv : PathV w v r.path) (hok : edgesOk t = true) (hj : t.joints.length ≤ 100) (hb : t.bals.length ≤ 100) (hl : r.path.length ≤ 1048576) :
    Calls Tryz.prog 59 #[.agg (tpC t a), .agg (rtA r v)] w fun e w' => e = .returned (.int .i64 (routeE t r)) ∧ Below w.heap.size w w' := by
  obtain ⟨A, c, rfl, hp⟩ := hv
  obtain ⟨rE, hrE⟩ : ∃ e, routeE t r = e := ⟨_, rfl⟩
  have HRE := Lib.hid hrE
  rw [hrE]
  clear hrE
  obtain ⟨rid, path, gap, timer⟩ := r
  unfold rtA
  dsimp only at *
  obtain ⟨n, hnn⟩ : ∃ n, path.length = n := ⟨_, rfl⟩
  have HL := Lib.hid hnn
  rw [hnn] at hp hl
  rw [hnn]
  clear hnn
  obtain ⟨wa, hwa⟩ : ∃ wa, (w.alloc (.cells (tpC t a) 27)).alloc (.cells #[.int .i64 rid, .slice A n c, .int .i64 gap, .int .i64 timer] 61) = wa := ⟨_, rfl⟩
  have hbwa : Below w.heap.size w wa := by rw [← hwa]; exact ((Below.refl _ _).alloc (Nat.le_refl _) _).alloc (by simp) _
  have h0 : Has wa (w.heap.size) 27 (tpC t a) := by rw [← hwa]; exact ((Has.made _ _ _).beside _)
  have h1 : Has wa (w.heap.size + 1) 61 #[.int .i64 rid, .slice A n c, .int .i64 gap, .int .i64 timer] := by rw [← hwa]; exact (has_at11 (by simp))
  have HWA := Lib.hid hwa; have HBWA := Lib.hid hbwa
  have H0 := Lib.hid (fun W (hW : Below wa.heap.size wa W) => h0.under hW h0.lt)
  have H1 := Lib.hid (fun W (hW : Below wa.heap.size wa W) => h1.under hW h1.lt)
  have HT := Lib.hid (fun W (hW : Below w.heap.size w W) => ht.under hW)
  have HP := Lib.hid (fun W (hW : Below w.heap.size w W) => hp.under hW)
  have HBA := Lib.hid (fun W (hW : Below wa.heap.size wa W) => hbwa.trans (hW.mono hbwa.size))
  have HOK := Lib.hid hok
  have c0 : wa.cell? ⟨w.heap.size + 1, 0, none⟩ = some (.int .i64 rid) := h1.cell 0
  have c1 : wa.cell? ⟨w.heap.size + 1, 1, none⟩ = some (.slice A n c) := h1.cell 1
  clear hwa hbwa h0 h1 ht hp hok
  by_cases k0 : rid < 1
  · have x0 : rid < 1 := by omega
    have HK := Lib.hid k0
    clear k0
    go_enter Tryz.func59, Tryz.ntmps59
    go_upto_region 1 with fail
    rw [HWA.out]
    clear HWA
    go_wp2
    go_ret
    have hE : rE = 1 := by rw [← HRE.out]; exact route_long (by have h_ := HL.out; have h2_ := HK.out; simp only; omega)
    subst hE
    exact ⟨by first | rfl | simp, HBWA.out⟩
  have x0 : ¬ rid < 1 := by omega
  by_cases k1 : n = 0
  · have x1 : (n : Int) = 0 := by omega
    have HK := Lib.hid k1
    clear k1
    go_enter Tryz.func59, Tryz.ntmps59
    go_upto_region 1 with fail
    rw [HWA.out]
    clear HWA
    go_wp2
    go_ret
    have hE : rE = 1 := by rw [← HRE.out]; exact route_long (by have h_ := HL.out; have h2_ := HK.out; simp only; omega)
    subst hE
    exact ⟨by first | rfl | simp, HBWA.out⟩
  have x1 : ¬ (n : Int) = 0 := by omega
  by_cases k2 : 8 < n
  · have x2 : (8 : Int) < n := by omega
    have HK := Lib.hid k2
    clear k2
    go_enter Tryz.func59, Tryz.ntmps59
    go_upto_region 1 with fail
    rw [HWA.out]
    clear HWA
    go_wp2
    go_ret
    have hE : rE = 1 := by rw [← HRE.out]; exact route_long (by have h_ := HL.out; have h2_ := HK.out; simp only; omega)
    subst hE
    exact ⟨by first | rfl | simp, HBWA.out⟩
  have x2 : ¬ (8 : Int) < n := by omega
  have HNZ := Lib.hid (show ¬ rid < 1 ∧ n ≠ 0 ∧ n ≤ 8 from ⟨k0, k1, by omega⟩)
  have hn8 : n ≤ 8 := by omega
  have hz2 : ((n : Int) == 0) = false := by simp [k1]
  go_enter Tryz.func59, Tryz.ntmps59
  go_upto_region 1 with fail
  rw [HWA.out]
  clear HWA
  go_upto_region 3 with fail
  clear x0 x1 x2 k0 k1 k2 hz2 c0 c1
  go_wp2
  go_loopg [5] n (fun kk v wl => ∃ i : Nat, i ≤ n ∧ n - i ≤ kk ∧ v = .int .i64 i ∧ Hid (∀ (m : Nat) (s : St3), m < i → path[m]? = some s → edgeB t s.edge = true) ∧ Hid (∀ (m k : Nat) (x y : St3), m < k → k < i → path[m]? = some x → path[k]? = some y → x.edge ≠ y.edge) ∧ Below wa.heap.size wa wl)
  case atStart => exact ⟨0, by omega, by omega, rfl, Lib.hid (fun m s h => absurd h (by omega)), Lib.hid (fun m k x y _ h => absurd h (by omega)), Below.refl _ _⟩
  case round =>
    obtain ⟨i, hi, hik, rfl, HED, HTW, hwr⟩ := hrel
    have HWR := Lib.hid hwr
    have c1 : wr.cell? ⟨w.heap.size + 1, 1, none⟩ = some (.slice A n c) := (H1.out wr hwr).cell 1
    clear hwr
    by_cases hlt : i < n
    rotate_left
    · obtain rfl : i = n := by omega
      have x1 : ¬ (i : Int) < i := by omega
      have HREST := Lib.hid (route_rest (t := t) (r := ⟨rid, path, gap, timer⟩) (by have h1_ := HL.out; have h2_ := HNZ.out; simp only; omega) (fun m s hm => HED.out m s (by have h1_ := HL.out; have h2_ : m < path.length := (List.getElem?_eq_some_iff.1 hm).1; omega) hm) (fun m k x y hmk hx hy => HTW.out m k x y hmk (by have h1_ := HL.out; have h2_ : k < path.length := (List.getElem?_eq_some_iff.1 hy).1; omega) hx hy))
      have HALL := Lib.hid (fun s (hs : s ∈ path) => (show edgeB t s.edge = true from by obtain ⟨m, hm, rfl⟩ := List.getElem_of_mem hs; exact HED.out m _ (by have h1_ := HL.out; omega) (List.getElem?_eq_getElem hm)))
      clear HED HTW hi hik
      go_upto_region 14 with fail
      clear x1
      go_wp2_with (with_reducible refine wpList_load_row (o := ⟨some 64, _, _, _, _, _⟩) rfl 27 _ rfl (w.heap.size) rfl 27 (tpC t a) (0, 0) _ ((H0.out wr HWR.out)).raw11 Tryz.underlying27 rfl (by kernel_rfl) ?_)
      have hlo := HBA.out _ HWR.out
      refine (rlength_any t a path A i c wr (HT.out _ hlo) (HP.out _ hlo) (by omega) hj HOK.out).mono ?_
      rintro e w4 ⟨rfl, hb4⟩
      have HW4 := Lib.hid (HWR.out.trans (hb4.mono HWR.out.size))
      clear hb4 hlo c1
      obtain ⟨lE, hlE⟩ : ∃ e, lenE t path = e := ⟨_, rfl⟩
      obtain ⟨lN, hlN⟩ : ∃ e, lenN t path = e := ⟨_, rfl⟩
      have HLE := Lib.hid hlE
      have HLN := Lib.hid hlN
      rw [hlE, hlN]
      clear hlE hlN
      by_cases hz : lE = 0
      rotate_left
      · have e1 : (lE == 0) = false := by simp [hz]
        have e2 : (lE != 0) = true := by simp [hz]
        go_wp2
        go_ret
        have hE : rE = lE := by rw [← HRE.out, HREST.out, if_neg (by rw [HLE.out]; exact hz)]; exact HLE.out
        subst hE
        exact ⟨by first | rfl | simp, HBA.out _ HW4.out⟩
      subst hz
      have d2 : w4.cell? ⟨w.heap.size + 1, 2, none⟩ = some (.int .i64 gap) := (H1.out w4 HW4.out).cell 2
      have d3 : w4.cell? ⟨w.heap.size + 1, 3, none⟩ = some (.int .i64 timer) := (H1.out w4 HW4.out).cell 3
      have hln : -1000 ≤ lN ∧ lN ≤ 8000000 := by have h_ := HLN.out; unfold lenN at h_; rw [if_pos HLE.out] at h_; have h2_ := sum_ok HOK.out HALL.out; rw [h_, HL.out] at h2_; omega
      have hw1 : IntKind.i64.wrap (lN - 1) = lN - 1 := by rw [IntKind.wrap_i64]; omega
      have HR2 := Lib.hid (show rE = if gap < 0 ∨ lN - 1 < gap ∨ timer < 1 ∨ 1000 < timer then 1 else if (path.all (hasBal t)) = true then 0 else 4 from by rw [← HRE.out, HREST.out, if_pos HLE.out, HLN.out])
      clear HREST hln
      by_cases z0 : gap < 0
      · go_upto_region 17 with fail
        go_wp2
        go_ret
        have hE : rE = 1 := by rw [HR2.out, if_pos (by omega)]
        subst hE
        exact ⟨by first | rfl | simp, HBA.out _ HW4.out⟩
      by_cases z1 : lN - 1 < gap
      · go_upto_region 17 with fail
        go_wp2
        go_ret
        have hE : rE = 1 := by rw [HR2.out, if_pos (by omega)]
        subst hE
        exact ⟨by first | rfl | simp, HBA.out _ HW4.out⟩
      by_cases z2 : timer < 1
      · go_upto_region 17 with fail
        go_wp2
        go_ret
        have hE : rE = 1 := by rw [HR2.out, if_pos (by omega)]
        subst hE
        exact ⟨by first | rfl | simp, HBA.out _ HW4.out⟩
      by_cases z3 : 1000 < timer
      · go_upto_region 17 with fail
        go_wp2
        go_ret
        have hE : rE = 1 := by rw [HR2.out, if_pos (by omega)]
        subst hE
        exact ⟨by first | rfl | simp, HBA.out _ HW4.out⟩
      have HR3 := Lib.hid (show rE = if (path.all (hasBal t)) = true then 0 else 4 from by rw [HR2.out, if_neg (by omega)])
      clear HR2
      go_upto_region 19 with fail
      clear z0 z1 z2 z3 hw1 d2 d3
      go_wp2
      go_loopg [10] i (fun kk v wl => ∃ j : Nat, j ≤ i ∧ i - j ≤ kk ∧ v = .int .i64 j ∧ Hid (∀ (m : Nat) (s : St3), m < j → path[m]? = some s → hasBal t s = true) ∧ Below wa.heap.size wa wl)
      case atStart => exact ⟨0, by omega, by omega, rfl, Lib.hid (fun m s h => absurd h (by omega)), HW4.out⟩
      case round =>
        obtain ⟨j, hj1, hjk, rfl, HHB, hwr⟩ := hrel
        have HW5 := Lib.hid hwr
        have c1 : wr.cell? ⟨w.heap.size + 1, 1, none⟩ = some (.slice A i c) := (H1.out wr hwr).cell 1
        clear hwr
        by_cases hjl : j < i
        rotate_left
        · have x1 : ¬ (j : Int) < i := by omega
          go_wp2
          go_ret
          have hE : rE = 0 := by rw [HR3.out, if_pos (List.all_eq_true.2 fun s hs => by obtain ⟨m, hm, rfl⟩ := List.getElem_of_mem hs; exact HHB.out m _ (by have h1_ := HL.out; omega) (List.getElem?_eq_getElem hm))]
          subst hE
          exact ⟨by first | rfl | simp, HBA.out _ HW5.out⟩
        obtain ⟨x, hx⟩ : ∃ x, path[j]? = some x := ⟨_, List.getElem?_eq_getElem (by have := HL.out; omega)⟩
        have HX := Lib.hid hx
        obtain ⟨bk, off, rfl, d0, -⟩ := (HP.out wr (HBA.out wr HW5.out)).step hx
        clear hx
        obtain ⟨ex, hex⟩ : ∃ e, x.edge = e := ⟨_, rfl⟩
        have HEX := Lib.hid hex
        rw [hex] at d0
        clear hex
        obtain ⟨nb, hnb⟩ : ∃ m, t.bals.length = m := ⟨_, rfl⟩
        have HNB := Lib.hid hnb
        have f2 : wr.cell? ⟨w.heap.size, 2, none⟩ = some (.slice a.ab nb a.cb) := by have h_ := (H0.out wr HW5.out).cell 2; rw [← hnb]; exact h_
        have HBL := Lib.hid (HT.out wr (HBA.out wr HW5.out)).b
        have hnb2 : nb ≤ 100 := by omega
        clear hnb
        obtain ⟨k1, hk1⟩ : ∃ k1, k1 = gk := ⟨_, rfl⟩
        subst hk1
        obtain ⟨w5, hw5⟩ : ∃ w5, w5 = wr := ⟨_, rfl⟩
        subst hw5
        have y0 : (0 : Int) ≤ j := by omega
        have y1 : (j : Int) < i := by omega
        go_upto_region 23 with fail
        go_wp2
        go_loopg [11, 12] nb (fun kk vh v wl => ∃ k q : Nat, k ≤ nb ∧ nb - k ≤ kk ∧ v = .int .i64 k ∧ vh = .bool ((t.bals.take k).any fun b => b.edge == ex) ∧ wl = w5.drewN q)
        case atStart => exact ⟨0, 0, by omega, by omega, rfl, rfl, rfl⟩
        case round =>
          obtain ⟨k, q, hk, hkk, rfl, rfl, rfl⟩ := hrel
          obtain ⟨hb0, hhb⟩ : ∃ b, ((t.bals.take k).any fun b => b.edge == ex) = b := ⟨_, rfl⟩
          have HB0 := Lib.hid hhb
          simp only [hhb]
          clear hhb
          by_cases hkl : k < nb
          rotate_left
          · have x1 : ¬ (k : Int) < nb := by omega
            have hhas : hasBal t x = hb0 := by rw [← HB0.out, List.take_of_length_le (by have := HNB.out; omega), ← HEX.out]; rfl
            cases hb0 with
            | false =>
              go_wp2
              go_ret
              have hE : rE = 4 := by rw [HR3.out, if_neg (fun h => by have h_ := List.all_eq_true.1 h x (List.mem_of_getElem? HX.out); rw [hhas] at h_; cases h_)]
              subst hE
              exact ⟨by first | rfl | simp, HBA.out _ (below_draws HW5.out q)⟩
            | true =>
              go_wp2
              go_roundg (k1 - 1)
              case measure => omega
              case rel =>
                refine ⟨j + 1, by omega, by omega, by go_num, Lib.hid (fun m s hm hs => ?_), below_draws HW5.out q⟩
                by_cases hmj : m = j
                · rw [hmj, HX.out] at hs
                  injection hs with hs
                  rw [← hs]
                  exact hhas
                · exact HHB.out m s (by omega) hs
          obtain ⟨b, hbx⟩ : ∃ b, t.bals[k]? = some b := ⟨_, List.getElem?_eq_getElem (by have := HNB.out; omega)⟩
          have HBX := Lib.hid hbx
          obtain ⟨b2, o2, hab, -, g1, -⟩ := HBL.out.bal hbx
          rw [hab] at f2
          have z0 : (0 : Int) ≤ k := by omega
          have z1 : (k : Int) < nb := by omega
          obtain ⟨eb, heb⟩ : ∃ e, b.edge = e := ⟨_, rfl⟩
          have HEB := Lib.hid heb
          rw [heb] at g1
          clear heb hbx hab
          cases hb0 with
          | true =>
            go_upto_region 26 with fail
            go_quiet (fail)
            go_wp2
            go_roundg (gk - 1)
            case measure => omega
            case rel =>
              refine ⟨k + 1, _, by omega, by omega, by go_num, ?_, by first | rfl | rw [World.drewN_drewN]⟩
              rw [take_any13 HBX.out, HB0.out, HEB.out]
              first | rfl | simp
          | false =>
            by_cases hee : eb = ex
            · subst hee
              go_upto_region 26 with fail
              go_quiet (fail)
              go_wp2
              go_roundg (gk - 1)
              case measure => omega
              case rel =>
                refine ⟨k + 1, _, by omega, by omega, by go_num, ?_, by first | rfl | rw [World.drewN_drewN]⟩
                rw [take_any13 HBX.out, HB0.out, HEB.out]
                first | rfl | simp
            · have e1 : (eb == ex) = false := by simp [hee]
              go_upto_region 26 with fail
              go_quiet (fail)
              go_wp2
              go_roundg (gk - 1)
              case measure => omega
              case rel =>
                refine ⟨k + 1, _, by omega, by omega, by go_num, ?_, by first | rfl | rw [World.drewN_drewN]⟩
                rw [take_any13 HBX.out, HB0.out, HEB.out]
                rw [e1]; rfl
    obtain ⟨x, hx⟩ : ∃ x, path[i]? = some x := ⟨_, List.getElem?_eq_getElem (by have := HL.out; omega)⟩
    have HX := Lib.hid hx
    obtain ⟨bk, off, rfl, -, -⟩ := (HP.out w (Below.refl _ _)).step hx
    obtain ⟨ex, hex⟩ : ∃ e, x.edge = e := ⟨_, rfl⟩
    have HEX := Lib.hid hex
    have HCX := Lib.hid (fun W (hW : Below w.heap.size w W) => (show W.cell? ⟨bk, off + i * 2, none⟩ = some (.int .i64 ex) from by rw [← hex]; obtain ⟨b_, o_, e_, h1_, h2_⟩ := (HP.out W hW).step hx; injection e_ with e_; injection e_ with e1_ e2_ _; subst e1_ e2_; exact h1_))
    obtain ⟨bq, hbq⟩ : ∃ b, edgeB t ex = b := ⟨_, rfl⟩
    have HBQ := Lib.hid hbq
    have y0 : (0 : Int) ≤ (i : Int) := by omega
    have y1 : (i : Int) < n := by omega
    clear hx hbq hex
    go_upto_region 6 with fail
    clear c1
    refine wp_region_held_drew (S := (fun W_ => Has W_ (w.heap.size) 27 (tpC t a) ∧ Has W_ (w.heap.size + 1) 61 #[.int .i64 rid, .slice (some ⟨bk, off, none⟩) n c, .int .i64 gap, .int .i64 timer] ∧ Below wr.heap.size wr W_)) (by kernel_rfl) ?_ (fun hHeld => ?_)
    · exact ⟨(H0.out _ HWR.out).draw, (H1.out _ HWR.out).draw, below_dr11 (Below.refl _ _)⟩
    refine wpAnyH_take (i := 0) (oi := ⟨some 35, _, _, _, _, _⟩) (v := .agg (tpC t a)) rfl (by kernel_rfl) (by kernel_rfl) (by kernel_rfl) (fun _ _ _ h => h) (yields_load_row11 27 _ rfl (w.heap.size) rfl 27 (tpC t a) _ (fun _ ⟨h_, _, _⟩ => h_) Tryz.underlying27 rfl (by kernel_rfl) (by rfl)) (by assumption) ?_
    simp only [Act.put, List.setIfInBounds_toArray, List.set_cons_zero, List.set_cons_succ]
    refine wpAnyH_take (i := 1) (oi := ⟨some 36, _, _, _, _, _⟩) (v := ?_) rfl (by kernel_rfl) (by kernel_rfl) (by kernel_rfl) (fun _ _ _ h => h) (Or.inl ⟨by rfl, ?_⟩) (by assumption) ?_
    rotate_left
    · intro w_ hSw; (try dsimp only at hSw); go_simp <;> with_reducible rfl
    simp only [Act.put, List.setIfInBounds_toArray, List.set_cons_zero, List.set_cons_succ]
    refine wpAnyH_take (i := 2) (oi := ⟨some 37, _, _, _, _, _⟩) (v := ?_) rfl (by kernel_rfl) (by kernel_rfl) (by kernel_rfl) (fun _ _ _ h => h) (Or.inl ⟨by rfl, ?_⟩) (by assumption) ?_
    rotate_left
    · intro w_ hSw; (try dsimp only at hSw); have c1_ : w_.cell? ⟨w.heap.size + 1, 1, none⟩ = some (.slice (some ⟨bk, off, none⟩) n c) := (by have h_ := hSw.2.1.cell 1; exact h_); go_simp <;> with_reducible rfl
    simp only [Act.put, List.setIfInBounds_toArray, List.set_cons_zero, List.set_cons_succ]
    refine wpAnyH_take (i := 3) (oi := ⟨some 38, _, _, _, _, _⟩) (v := ?_) rfl (by kernel_rfl) (by kernel_rfl) (by kernel_rfl) (fun _ _ _ h => h) (Or.inl ⟨by rfl, ?_⟩) (by assumption) ?_
    rotate_left
    · intro w_ hSw; (try dsimp only at hSw); go_simp <;> with_reducible rfl
    simp only [Act.put, List.setIfInBounds_toArray, List.set_cons_zero, List.set_cons_succ]
    refine wpAnyH_take (i := 4) (oi := ⟨some 39, _, _, _, _, _⟩) (v := ?_) rfl (by kernel_rfl) (by kernel_rfl) (by kernel_rfl) (fun _ _ _ h => h) (Or.inl ⟨by rfl, ?_⟩) (by assumption) ?_
    rotate_left
    · intro w_ hSw; (try dsimp only at hSw); go_simp <;> with_reducible rfl
    simp only [Act.put, List.setIfInBounds_toArray, List.set_cons_zero, List.set_cons_succ]
    refine wpAnyH_take (i := 5) (oi := ⟨some 40, _, _, _, _, _⟩) (v := ?_) rfl (by kernel_rfl) (by kernel_rfl) (by kernel_rfl) (fun _ _ _ h => h) (Or.inl ⟨by rfl, ?_⟩) (by assumption) ?_
    rotate_left
    · intro w_ hSw; (try dsimp only at hSw); go_simp <;> with_reducible rfl
    simp only [Act.put, List.setIfInBounds_toArray, List.set_cons_zero, List.set_cons_succ]
    refine wpAnyH_take (i := 6) (oi := ⟨some 41, _, _, _, _, _⟩) (v := ?_) rfl (by kernel_rfl) (by kernel_rfl) (by kernel_rfl) (fun _ _ _ h => h) (Or.inl ⟨by rfl, ?_⟩) (by assumption) ?_
    rotate_left
    · intro w_ hSw; (try dsimp only at hSw); have cx_ := HCX.out w_ (HBA.out w_ (HWR.out.trans (hSw.2.2.mono HWR.out.size))); go_simp <;> with_reducible rfl
    simp only [Act.put, List.setIfInBounds_toArray, List.set_cons_zero, List.set_cons_succ]
    refine wpAnyH_ready (rs := [7]) (by kernel_rfl) (by simp) ?_
    refine AllReadyH.cons (o := ⟨some 42, _, _, _, _, _⟩) rfl (fun K hK => ?_) ?_
    · go_simp
      obtain ⟨s0, s1, s2⟩ := hHeld
      refine (redge_any t a ex _).mono ?_
      rw [HBQ.out]
      rintro e_ vs ⟨rfl, hbs⟩
      go_wp2_with fail
      refine hK.out _ _ ?_ (fun hHeld => ?_)
      · exact ⟨s0.under hbs s0.lt, s1.under hbs s1.lt, s2.trans (hbs.mono s2.size)⟩
      clear hK K s0 s1 s2
      try simp only [Act.put, List.setIfInBounds_toArray, List.set_cons_zero, List.set_cons_succ]
      refine wpAnyH_take (i := 8) (oi := ⟨some 6, _, _, _, _, _⟩) (v := ?_) rfl (by kernel_rfl) (by kernel_rfl) (by kernel_rfl) (fun _ _ _ h => h) (Or.inl ⟨by rfl, ?_⟩) (by assumption) ?_
      rotate_left
      · intro w_ hSw; (try dsimp only at hSw); go_simp <;> with_reducible rfl
      simp only [Act.put, List.setIfInBounds_toArray, List.set_cons_zero, List.set_cons_succ]
      refine wpAnyH_done (by kernel_rfl) ?_ _
      have HBE := Lib.hid (HWR.out.trans (hHeld.2.2.mono HWR.out.size))
      clear hHeld
      cases bq with
      | false =>
        go_wp2
        go_ret
        have hE : rE = 1 := by rw [← HRE.out]; exact route_edge (m := i) HX.out (by rw [HEX.out]; exact HBQ.out)
        subst hE
        exact ⟨by first | rfl | simp, HBA.out _ HBE.out⟩
      | true =>
        have c1 : vs.cell? ⟨w.heap.size + 1, 1, none⟩ = some (.slice (some ⟨bk, off, none⟩) n c) := (H1.out vs HBE.out).cell 1
        have d0 := HCX.out vs (HBA.out vs HBE.out)
        obtain ⟨k1, hk1⟩ : ∃ k1, k1 = gk := ⟨_, rfl⟩
        subst hk1
        go_upto_region 9 with fail
        go_wp2
        go_loopg [7] i (fun kk v wl => ∃ k q : Nat, k ≤ i ∧ i - k ≤ kk ∧ v = .int .i64 k ∧ Hid (∀ (m : Nat) (y : St3), m < k → path[m]? = some y → y.edge ≠ ex) ∧ wl = vs.drewN q)
        case atStart => exact ⟨0, 0, by omega, by omega, rfl, Lib.hid (fun m y h => absurd h (by omega)), rfl⟩
        case round =>
          obtain ⟨k, q, hk, hkk, rfl, HN2, rfl⟩ := hrel
          by_cases hkl : k < i
          rotate_left
          · have x1 : ¬ (k : Int) < i := by omega
            go_wp2
            go_roundg (k1 - 1)
            case measure => omega
            case rel =>
              refine ⟨i + 1, by omega, by omega, by go_num, Lib.hid (fun m s hm hs => ?_), Lib.hid (fun m l u v hml hl hu hv => ?_), below_draws HBE.out q⟩
              · by_cases hmi : m = i
                · rw [hmi, HX.out] at hs
                  injection hs with hs
                  rw [← hs, HEX.out]
                  exact HBQ.out
                · exact HED.out m s (by omega) hs
              · by_cases hli : l = i
                · rw [hli, HX.out] at hv
                  injection hv with hv
                  rw [← hv, HEX.out]
                  exact HN2.out m u (by omega) hu
                · exact HTW.out m l u v hml (by omega) hu hv
          obtain ⟨y, hy⟩ : ∃ y, path[k]? = some y := ⟨_, List.getElem?_eq_getElem (by have := HL.out; omega)⟩
          have HY := Lib.hid hy
          obtain ⟨b2, o2, hb2, g0, -⟩ := (HP.out vs (HBA.out vs HBE.out)).step hy
          injection hb2 with hb2
          injection hb2 with hb3 hb4 _
          subst hb3 hb4
          obtain ⟨ey, hey⟩ : ∃ e, y.edge = e := ⟨_, rfl⟩
          have HEY := Lib.hid hey
          rw [hey] at g0
          clear hy hey
          have z0 : (0 : Int) ≤ k := by omega
          have z1 : (k : Int) < n := by omega
          by_cases hee : ey = ex
          · subst hee
            go_upto_region 12 with fail
            go_quiet (fail)
            go_wp2
            go_ret
            have hE : rE = 1 := by rw [← HRE.out]; exact route_twice (m := k) (k := i) hkl HY.out HX.out (by rw [HEY.out, HEX.out])
            subst hE
            exact ⟨by first | rfl | simp, HBA.out _ (by first | exact below_draws HBE.out _ | (rw [World.drewN_drewN]; exact below_draws HBE.out _))⟩
          · have e1 : (ey == ex) = false := by simp [hee]
            go_upto_region 12 with fail
            go_quiet (fail)
            go_wp2
            go_roundg (gk - 1)
            case measure => omega
            case rel =>
              refine ⟨k + 1, _, by omega, by omega, by go_num, Lib.hid (fun m z hm hz => ?_), by first | rfl | rw [World.drewN_drewN]⟩
              by_cases hmk : m = k
              · rw [hmk, HY.out] at hz
                injection hz with hz
                rw [← hz, HEY.out]
                exact hee
              · exact HN2.out m z (by omega) hz
    exact AllReadyH.nil

end Go.Proofs.YteioefgckigbcaaGreat
