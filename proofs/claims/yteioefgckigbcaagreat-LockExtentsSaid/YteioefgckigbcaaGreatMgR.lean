/-
  LcRefA, LcRefB, LcRefC, LcRefD: merged.
-/
import Derived.Test.YteioefgckigbcaaGreatLcEq
import Derived.Test.YteioefgckigbcaaGreatSnRefD
import Derived.Test.YteioefgckigbcaaGreatTpRefE
import Derived.BigQuiet
import Derived.IntWalk
import Derived.StillTailTactics

/-
  linesideref16, by contract: Extent, Of, Train, there, Met, Locked, Locks, Same.
-/
namespace Go.Proofs.YteioefgckigbcaaGreat

open Go.RowKit

open Go.Great

set_option maxRecDepth 100000 in
set_option maxHeartbeats 8000000 in
theorem rlext_any (t : Tp3) (a : TpA) (route : Int) (w : World) (ht : TopR w t a) (hl : lightT t = true) :
    Calls Tryz.prog 16 #[.agg (tpC t a), .int .i64 route] w fun r w' => ∃ X x, r = .returned (.slice X (extL t route).length x) ∧ SlO snC 3 w' X (extL t route).length x (extL t route) ∧ (extL t route).length ≤ x ∧ Below w.heap.size w w' := by
  obtain ⟨wa, hwa⟩ : ∃ wa, w.alloc (.cells (tpC t a) 27) = wa := ⟨_, rfl⟩
  have hbwa : Below w.heap.size w wa := by rw [← hwa]; exact (Below.refl _ _).alloc (Nat.le_refl _) _
  have h0 : Has wa (w.heap.size) 27 (tpC t a) := by rw [← hwa]; exact (Has.made _ _ _)
  have HWA := Lib.hid hwa; have HBWA := Lib.hid hbwa
  have HT := Lib.hid (fun W (hW : Below w.heap.size w W) => ht.under hW)
  have H0 := Lib.hid (fun W (hW : Below wa.heap.size wa W) => h0.under hW h0.lt)
  have HBA := Lib.hid (fun W (hW : Below wa.heap.size wa W) => hbwa.trans (hW.mono hbwa.size))
  have HNN := Lib.hid (light_nums13 hl)
  have HLT := Lib.hid hl
  obtain ⟨EL, hEL⟩ : ∃ L, extL t route = L := ⟨_, rfl⟩
  rw [hEL]
  have HEL := Lib.hid hEL
  clear hwa hbwa h0 ht hl hEL
  go_enter Tryz.func16, Tryz.ntmps16
  go_upto_region 1 with fail
  rw [HWA.out]
  clear HWA
  go_wp2_with (with_reducible refine wpList_load_row (o := ⟨some 12, _, _, _, _, _⟩) rfl 27 _ rfl (w.heap.size) rfl 27 (tpC t a) (0, 0) _ ((H0.out wa (Below.refl _ _))).raw11 Tryz.underlying27 rfl (by kernel_rfl) ?_)
  refine (rroute_any t a route wa (HT.out _ HBWA.out) (by have := HNN.out.2.2.2.1; omega)).mono ?_
  rintro e w1 ⟨v, hv, rfl, hb1⟩
  obtain ⟨A, c, rfl, hs⟩ := hv
  have HB1 := Lib.hid hb1
  have HS1 := Lib.hid hs
  clear hb1 hs
  unfold rtA
  obtain ⟨R, hR⟩ : ∃ R, routeR t route = R := ⟨_, rfl⟩
  rw [hR] at HS1 ⊢
  cases hq : routeF t route with
  | none =>
    obtain rfl : EL = [] := by rw [← HEL.out, ext_no hq]
    clear hR HS1 hq HEL
    go_wp2
    go_ret
    exact ⟨none, 0, rfl, SlO.nil _ _ _, Nat.le_refl _, HBA.out _ (HB1.out.alloc HB1.out.size _)⟩
  | some r =>
    obtain rfl : r = R := by rw [← hR]; unfold routeR; rw [hq]; rfl
    have HRL := Lib.hid (HNN.out.2.2.2.2 r (route_mem16 hq))
    have HEL := Lib.hid (HEL.out.symm.trans (ext_at hq))
    clear hR hq
    obtain ⟨id, path, gap, timer⟩ := r
    dsimp only at *
    generalize path.length = n at *
    go_upto_region 2 with fail
    obtain ⟨wb, hwb⟩ : ∃ wb, w1.alloc (.cells #[.int .i64 id, .slice A n c, .int .i64 gap, .int .i64 timer] 61) = wb := ⟨_, rfl⟩
    rw [hwb]
    have hbb : Below w1.heap.size w1 wb := by rw [← hwb]; exact (Below.refl _ _).alloc (Nat.le_refl _) _
    have hH : Has wb w1.heap.size 61 #[.int .i64 id, .slice A n c, .int .i64 gap, .int .i64 timer] := by rw [← hwb]; exact Has.made _ _ _
    have HBB := Lib.hid (HB1.out.trans (hbb.mono HB1.out.size))
    have HS2 := Lib.hid (fun W (hW : Below wb.heap.size wb W) => (HS1.out.under hbb).under hW)
    have HR2 := Lib.hid (fun W (hW : Below wb.heap.size wb W) => hH.under hW hH.lt)
    have HX := Lib.hid (fun W (hW : Below wb.heap.size wb W) => HBB.out.trans (hW.mono HBB.out.size))
    obtain ⟨gr, hgr⟩ : ∃ g, w1.heap.size = g := ⟨_, rfl⟩
    rw [hgr] at HR2
    simp only [hgr]
    have hcr := (HR2.out wb (Below.refl _ _)).cell 1
    have c1 : wb.cell? ⟨gr, 1, none⟩ = some (.slice A n c) := hcr
    clear hwb hbb hH hgr hcr HS1 HB1
    go_wp2_with (with_reducible refine wpList_load_row (o := ⟨some 20, _, _, _, _, _⟩) rfl 27 _ rfl (w.heap.size) rfl 27 (tpC t a) (0, 0) _ ((H0.out wb HBB.out)).raw11 Tryz.underlying27 rfl (by kernel_rfl) ?_)
    refine (rlength_n t a path A n c wb (HT.out _ (HBA.out _ HBB.out)) (HS2.out _ (Below.refl _ _)) (by have := HRL.out; omega) (by have := HNN.out.2.1; omega)).mono ?_
    rintro e w2 ⟨N, rfl, hN, hb2⟩
    have HB2 := Lib.hid hb2
    have HNE := Lib.hid hN
    have c2 : w2.cell? ⟨gr, 1, none⟩ = some (.slice A n c) := (HR2.out w2 hb2).cell 1
    clear hb2 hN c1
    by_cases z0 : lenE t path = 0
    rotate_left
    · have q0 : (lenE t path != 0) = true := by simp [z0]
      obtain rfl : EL = [] := by rw [HEL.out, over_bad16 z0]
      clear HEL
      go_wp2
      go_ret
      exact ⟨none, 0, rfl, SlO.nil _ _ _, Nat.le_refl _, HBA.out _ (HX.out _ HB2.out)⟩
    have HE := Lib.hid (over_n16 z0 HNE.out)
    have q0 : (lenE t path != 0) = false := by simp [z0]
    rw [z0]
    rw [z0] at q0
    have HEQ := Lib.hid (show (overE t path 0 N).1 = EL from HE.out.trans HEL.out.symm)
    clear z0 HE HNE HEL
    go_upto_region 7 with fail
    go_wp2_with (with_reducible refine wpList_load_row (o := ⟨some 29, _, _, _, _, _⟩) rfl 27 _ rfl (w.heap.size) rfl 27 (tpC t a) (0, 0) _ ((H0.out w2 (HBB.out.trans (HB2.out.mono HBB.out.size)))).raw11 Tryz.underlying27 rfl (by kernel_rfl) ?_)
    refine (rsover_any t a path A n c 0 N w2 (HT.out _ (HBA.out _ (HX.out _ HB2.out))) (HS2.out _ HB2.out) (by have := HRL.out; omega) HLT.out).mono ?_
    rintro e w3 ⟨X, x, rfl, hs3, hc3, hb3⟩
    rw [HEQ.out] at hs3 hc3 ⊢
    have HS3 := Lib.hid hs3; have HC3 := Lib.hid hc3; have HB3 := Lib.hid ((HX.out _ HB2.out).trans (hb3.mono (HX.out _ HB2.out).size))
    clear hs3 hc3 hb3 c2 HB2
    generalize (overE t path 0 N).2 = R2
    clear HEQ
    go_wp2
    go_ret
    exact ⟨X, x, rfl, HS3.out, HC3.out, HBA.out _ HB3.out⟩

theorem of_take16 {l : List Lc3} {i : Nat} {s : Lc3} (h : l[i]? = some s) (train : Int) : ofL (l.take (i + 1)) train = if (s.train == train) = true then ofL (l.take i) train ++ [s] else ofL (l.take i) train := by
  unfold ofL
  rw [List.take_add_one, h, List.filter_append]
  show _ ++ List.filter _ [s] = _
  rw [List.filter_cons, List.filter_nil]
  split
  · rfl
  · simp
set_option maxRecDepth 100000 in
set_option maxHeartbeats 8000000 in
theorem rlof_any (l : List Lc3) (train : Int) (A : Option Addr) (n c : Nat) (w : World) (hs : SlO lcC 3 w A n c l) (hn : n ≤ 1000) :
    Calls Tryz.prog 21 #[.slice A n c, .int .i64 train] w fun r w' => ∃ X k x, r = .returned (.slice X k x) ∧ OwR lcC 3 57 w.heap.size w' X k x (ofL l train) ∧ Below w.heap.size w w' := by
  have HL := Lib.hid hs.1
  have HS := Lib.hid hs
  clear hs
  have hx0 : (0 : Int) ≤ n := by omega
  go_enter Tryz.func21, Tryz.ntmps21
  go_wp2
  go_loopg [5, 6] n (fun kk v5 v6 wl => ∃ (i k : Nat) (X : Option Addr) (x : Nat), i ≤ n ∧ n - i ≤ kk ∧ v6 = .int .i64 i ∧ v5 = .slice X k x ∧ Hid (k ≤ i) ∧ Hid (OwR lcC 3 57 w.heap.size wl X k x (ofL (l.take i) train)) ∧ Hid (Below w.heap.size w wl))
  case atStart => exact ⟨0, 0, none, 0, by omega, by omega, rfl, rfl, Lib.hid (Nat.le_refl _), Lib.hid (OwR.nil _ _ _ _ _), Lib.hid (Below.refl _ _)⟩
  case round =>
    obtain ⟨i, k, X, x, hi, hik, rfl, rfl, HK, HO, HB⟩ := hrel
    obtain ⟨k1, hk1⟩ : ∃ k1, k1 = gk := ⟨_, rfl⟩
    subst hk1
    obtain ⟨wv, hwv⟩ : ∃ wv, wv = wr := ⟨_, rfl⟩
    subst hwv
    by_cases hlt : i < n
    rotate_left
    · obtain rfl : i = n := by omega
      have x1 : ¬ (i : Int) < i := by omega
      have HE : Hid (l.take i = l) := Lib.hid (List.take_of_length_le (by rw [HL.out]; exact Nat.le_refl _))
      clear hik hlt
      go_wp2
      go_ret
      exact ⟨X, k, x, rfl, by have h_ := HO.out; rw [HE.out] at h_; exact h_, HB.out⟩
    obtain ⟨s, hs⟩ : ∃ s, l[i]? = some s := ⟨_, List.getElem?_eq_getElem (by rw [HL.out]; exact hlt)⟩
    have HTK := Lib.hid (of_take16 hs train)
    obtain ⟨bk, off, rfl, hc⟩ := HS.out.locks hs
    obtain ⟨d0, d1, d2⟩ := hc wv HB.out
    clear hs hc
    obtain ⟨sr, st, sn⟩ := s
    dsimp only at *
    have x1 : (i : Int) < n := by omega
    have x2 : (0 : Int) ≤ i := by omega
    obtain ⟨q, hq⟩ : ∃ q, (st == train) = q := ⟨_, rfl⟩
    rw [hq] at HTK
    cases q with
    | false =>
      rw [if_neg (by decide)] at HTK
      go_wp2
      go_roundg (k1 - 1)
      case measure => omega
      case rel => exact ⟨i + 1, k, X, x, by omega, by omega, by go_num, rfl, Lib.hid (by have := HK.out; omega), Lib.hid (by rw [HTK.out]; exact HO.out), HB⟩
    | true =>
      rw [if_pos rfl] at HTK
      obtain ⟨hN, hO, hC, h1, hBD⟩ := pushR (f := lcC) (k := 3) (e := 57) (w := wv) 24 ⟨sr, st, sn⟩ #[.int .i64 sr, .int .i64 st, .int .i64 sn] rfl rfl (one_lc16 _) HO.out HB.out.size (by have := HK.out; omega) (by omega)
      have HBW := Lib.hid (show Below w.heap.size w (wv.alloc (.cells #[.int .i64 sr, .int .i64 st, .int .i64 sn] 57)) from HB.out.alloc HB.out.size _)
      have HLN := Lib.hid HO.out.2
      clear HO HB
      go_upto_region 6 with fail
      go_wp2_with (with_reducible refine wpList_push (o := ⟨some 26, _, _, _, _, _⟩) rfl (.tmp 20) (.tmp 25) 28 rfl w.heap.size 57 (.agg #[.int .i64 0, .int .i64 0, .int .i64 0]) 3 24 Tryz.underlying28 info_lock16 ?hz1 (by decide) X (k) x ((ofL (l.take i) train).flatMap lcC) ?hs1 hO ⟨wv.heap.size, 0, none⟩ 1 1 (lcC ⟨sr, st, sn⟩) ?hx1 hN hC h1 hBD ?next1)
      all_goals try rfl
      case next1 =>
        intro A1 c1 v2 ho hg
        have HO3 := Lib.hid (OwR.snoc HLN.out ho.out)
        have HB3 := Lib.hid (below_own HBW.out HBW.out.size hO.out (Nat.le_refl _) rfl hg.out)
        clear ho hg hN hO hC h1 hBD HBW HLN d0 d1 d2
        go_wp2
        go_roundg (k1 - 1)
        case measure => omega
        case rel => exact ⟨i + 1, k + 1, A1, c1, by omega, by omega, by go_num, rfl, Lib.hid (by have := HK.out; omega), Lib.hid (by rw [HTK.out]; exact HO3.out), HB3⟩

set_option maxRecDepth 100000 in
set_option maxHeartbeats 8000000 in
theorem rltrain_any (n : Int) (w : World) :
    Calls Tryz.prog 28 #[.int .i64 n] w fun e w' => e = .returned (.bool (trainB n)) ∧ w = w' := by
  unfold trainB
  by_cases h1 : 0 ≤ n
  · rw [decide_eq_true h1, Bool.true_and]
    by_cases h2 : n ≤ 16777215
    · rw [decide_eq_true h2]
      go_enter Tryz.func28, Tryz.ntmps28
      go_wp2
      go_ret
      exact ⟨by first | rfl | simp, rfl⟩
    · rw [decide_eq_false h2]
      go_enter Tryz.func28, Tryz.ntmps28
      go_wp2
      go_ret
      exact ⟨by first | rfl | simp, rfl⟩
  · rw [decide_eq_false h1, Bool.false_and]
    go_enter Tryz.func28, Tryz.ntmps28
    go_wp2
    go_ret
    exact ⟨by first | rfl | simp, rfl⟩

set_option maxRecDepth 100000 in
set_option maxHeartbeats 8000000 in
theorem rlthere_any (l : List Lc3) (route : Int) (A : Option Addr) (n c : Nat) (w : World) (hs : SlO lcC 3 w A n c l) (hn : n ≤ 1000) :
    Calls Tryz.prog 30 #[.slice A n c, .int .i64 route] w fun e w' => e = .returned (.bool (thereB l route)) ∧ w = w' := by
  have HL := Lib.hid hs.1
  have HS := Lib.hid hs
  obtain ⟨R, hR⟩ : ∃ R, thereB l route = R := ⟨_, rfl⟩
  have HR := Lib.hid hR
  rw [hR]
  clear hs hR
  have hx0 : (0 : Int) ≤ n := by omega
  go_enter Tryz.func30, Tryz.ntmps30
  go_wp2
  go_loopg [5] n (fun kk v5 wl => ∃ i : Nat, i ≤ n ∧ n - i ≤ kk ∧ v5 = .int .i64 i ∧ Hid (∀ j s, j < i → l[j]? = some s → (s.route == route) = false) ∧ w = wl)
  case atStart => exact ⟨0, by omega, by omega, rfl, Lib.hid fun j s h => absurd h (by omega), rfl⟩
  case round =>
    obtain ⟨i, hi, hik, rfl, HNO, rfl⟩ := hrel
    by_cases hlt : i < n
    rotate_left
    · have x1 : ¬ (i : Int) < n := by omega
      have HF : Hid (R = false) := Lib.hid (by
        rw [← HR.out]
        unfold thereB
        rw [List.any_eq_false]
        intro s hs
        obtain ⟨j, hj, rfl⟩ := List.getElem_of_mem hs
        rw [HNO.out j _ (by have := HL.out; omega) (List.getElem?_eq_getElem hj)]
        decide)
      go_wp2
      go_ret
      exact ⟨by rw [HF.out]; rfl, rfl⟩
    obtain ⟨s, hs⟩ : ∃ s, l[i]? = some s := ⟨_, List.getElem?_eq_getElem (by rw [HL.out]; exact hlt)⟩
    obtain ⟨bk, off, rfl, d0, d1, d2⟩ := HS.out.lock hs
    have HX := Lib.hid hs
    clear hs
    have x1 : (i : Int) < n := by omega
    have x2 : (0 : Int) ≤ i := by omega
    obtain ⟨q, hq⟩ : ∃ q, (s.route == route) = q := ⟨_, rfl⟩
    have HQ := Lib.hid hq
    cases q with
    | true =>
      have HF : Hid (R = true) := Lib.hid (by rw [← HR.out]; unfold thereB; rw [List.any_eq_true]; exact ⟨s, List.mem_of_getElem? HX.out, HQ.out⟩)
      go_wp2
      go_ret
      exact ⟨by rw [HF.out]; rfl, rfl⟩
    | false =>
      go_wp2
      go_roundg (gk - 1)
      case measure => omega
      case rel =>
        refine ⟨i + 1, by omega, by omega, by go_num, Lib.hid fun j s' hj hs' => ?_, rfl⟩
        by_cases hji : j = i
        · subst hji; rw [HX.out] at hs'; injection hs' with hs'; rw [← hs']; exact HQ.out
        · exact HNO.out j s' (by omega) hs'

end Go.Proofs.YteioefgckigbcaaGreat

/-
  linesideref16, by contract: Met, Locked, Locks, Same.
-/
namespace Go.Proofs.YteioefgckigbcaaGreat

open Go.RowKit

open Go.Great

theorem step_pour16 {P : Program} {ops : Array Oper} {o : Oper} {a : Act} {w : World} {K : Act → World → Prop} {Q : Exit → Act → World → Prop} {E : Prop} (hgd : o.guard = none) (s x : Operand) (t : TypeId)
    (ho : o.op = .call { callee := .builtin .append, args := #[s, x], argTypes := #[t, t] })
    (base : Nat) (e : TypeId) (z : Value) (size bytes : Nat) (ht : P.underlying t = some (.slice e)) (hinfo : (P.info? e).map (fun i => (i.zero, i.size, i.bytes)) = some (some z, size, bytes))
    (hzs : z.cells.size = size) (hsz : 0 < size)
    (A : Option Addr) (n c : Nat) (xs : List Value) (hs : a.eval s = .slice A n c) (hown : Hid (w.ownsRow base e size (.slice A n c) n xs))
    (B : Option Addr) (m cc : Nat) (news : List Value) (hx : a.eval x = .slice B m cc) (hl : Hid (Sl w size B m cc news)) (h1 : Hid (∀ u ∈ news, u.oneCell' = true))
    (hb : Hid (n + m ≤ maxLen ∧ (n + m) * bytes ≤ 140737488355328 ∧ base ≤ w.heap.size))
    (h : ∀ A' c' w', Hid (w'.ownsRow base e size (.slice A' (n + m) c') (n + m) (xs ++ news)) → Hid (w.grownBy w' (Value.ownBlock (.slice A n c))) →
      K (a.put o.dst (.slice A' (n + m) c')) w') : if Region.wanted o (yielded ops a.tmps) = true then Oper.wp P o a w K Q else E := by
  cases B with
  | none =>
    obtain ⟨rfl, rfl⟩ := hl.out.2.1 rfl
    have e0 : news = [] := List.eq_nil_of_length_eq_zero (by simpa using hl.out.1)
    subst e0
    have hw : Region.wanted o (yielded ops a.tmps) = true := by simp [Region.wanted, hgd]
    rw [if_pos hw]
    obtain ⟨i, hi, _⟩ := info_parts hinfo
    have hr := run_append_owned_none (P := P) (w := w) base t o.type e i size ht hi (.slice A n c) n xs hown.out
    unfold Oper.wp execOp
    simp only [ho, resolve, invoke, builtin, Sem.run_bind, Sem.run_pure, Result.andThen_ok, List.map_toArray, List.map_cons, List.map_nil, hs, hx, hr]
    exact h A c w (show Hid _ by simpa using hown) (only_refl _ _)
  | some ad =>
    exact step_push hgd s x t ho base e z size bytes ht hinfo hzs hsz A n c xs hs hown ad m cc news hx hl.out.1 (hl.out.2.2 ad rfl) h1 hb h

set_option maxRecDepth 100000 in
set_option maxHeartbeats 8000000 in
theorem rlmet_any (t : Tp3) (a : TpA) (l : List Lc3) (route train : Int) (A : Option Addr) (n c : Nat) (w : World) (ht : TopR w t a) (hl : lightT t = true) (hs : SlO lcC 3 w A n c l) (hn : n ≤ 1000) :
    Calls Tryz.prog 31 #[.agg (tpC t a), .slice A n c, .int .i64 route, .int .i64 train] w fun r w' => r = .returned (.bool (metB t l route train)) ∧ Below w.heap.size w w' := by
  obtain ⟨wa, hwa⟩ : ∃ wa, w.alloc (.cells (tpC t a) 27) = wa := ⟨_, rfl⟩
  have hbwa : Below w.heap.size w wa := by rw [← hwa]; exact (Below.refl _ _).alloc (Nat.le_refl _) _
  have h0 : Has wa (w.heap.size) 27 (tpC t a) := by rw [← hwa]; exact (Has.made _ _ _)
  have HWA := Lib.hid hwa; have HBWA := Lib.hid hbwa
  have HT := Lib.hid (fun W (hW : Below w.heap.size w W) => ht.under hW)
  have H0 := Lib.hid (fun W (hW : Below wa.heap.size wa W) => h0.under hW h0.lt)
  have HBA := Lib.hid (fun W (hW : Below wa.heap.size wa W) => hbwa.trans (hW.mono hbwa.size))
  have HLT := Lib.hid hl
  have HS := Lib.hid hs
  have HL := Lib.hid hs.1
  obtain ⟨R, hR⟩ : ∃ R, metB t l route train = R := ⟨_, rfl⟩
  have HR := Lib.hid hR
  rw [hR]
  clear hwa hbwa h0 ht hl hs hR
  have hx0 : (0 : Int) ≤ n := by omega
  go_enter Tryz.func31, Tryz.ntmps31
  go_upto_region 1 with fail
  rw [HWA.out]
  clear HWA
  go_wp2_with (with_reducible refine wpList_load_row (o := ⟨some 12, _, _, _, _, _⟩) rfl 27 _ rfl (w.heap.size) rfl 27 (tpC t a) (0, 0) _ ((H0.out wa (Below.refl _ _))).raw11 Tryz.underlying27 rfl (by kernel_rfl) ?_)
  refine (rlext_any t a route wa (HT.out _ HBWA.out) HLT.out).mono ?_
  rintro e w2 ⟨X, x, rfl, hs2, _, hb2⟩
  have HOW := Lib.hid (fun W (hW : Below w2.heap.size w2 W) => hs2.under hW)
  have HB2 := Lib.hid hb2
  have HX := Lib.hid (fun W (hW : Below w2.heap.size w2 W) => (show Below wa.heap.size wa W from hb2.trans (hW.mono hb2.size)))
  clear hs2 hb2
  obtain ⟨K0, hK0⟩ : ∃ K, (extL t route).length = K := ⟨_, rfl⟩
  have HK0 := Lib.hid (show K0 ≤ 200 from by rw [← hK0]; exact ext_few HLT.out route)
  rw [hK0] at HOW
  simp only [hK0]
  clear hK0
  go_wp2
  go_loopg [10] n (fun kk v10 wl => ∃ i : Nat, i ≤ n ∧ n - i ≤ kk ∧ v10 = .int .i64 i ∧ Hid (∀ j k, j < i → l[j]? = some k → metK t route train k = false) ∧ Hid (Below w2.heap.size w2 wl))
  case atStart => exact ⟨0, by omega, by omega, rfl, Lib.hid fun j s h => absurd h (by omega), Lib.hid (Below.refl _ _)⟩
  case round =>
    obtain ⟨i, hi, hik, rfl, HNO, HB⟩ := hrel
    obtain ⟨k1, hk1⟩ : ∃ k1, k1 = gk := ⟨_, rfl⟩
    subst hk1
    obtain ⟨wv, hwv⟩ : ∃ wv, wv = wr := ⟨_, rfl⟩
    subst hwv
    by_cases hlt : i < n
    rotate_left
    · have x1 : ¬ (i : Int) < n := by omega
      have HF : Hid (R = false) := Lib.hid (by
        rw [← HR.out]
        unfold metB
        rw [List.any_eq_false]
        intro s hs
        obtain ⟨j, hj, rfl⟩ := List.getElem_of_mem hs
        rw [HNO.out j _ (by have := HL.out; omega) (List.getElem?_eq_getElem hj)]
        decide)
      go_wp2
      go_ret
      exact ⟨by rw [HF.out]; rfl, HBA.out _ (HX.out _ HB.out)⟩
    obtain ⟨s, hs⟩ : ∃ s, l[i]? = some s := ⟨_, List.getElem?_eq_getElem (by rw [HL.out]; exact hlt)⟩
    have HXS := Lib.hid hs
    obtain ⟨bk, off, rfl, hc⟩ := HS.out.locks hs
    have HC := Lib.hid hc
    clear hs hc
    obtain ⟨sr, st, sn⟩ := s
    dsimp only at *
    have x1 : (i : Int) < n := by omega
    have x2 : (0 : Int) ≤ i := by omega
    obtain ⟨m, hm⟩ : ∃ m, meetsL (extL t route) (extL t sr) = m := ⟨_, rfl⟩
    have HM := Lib.hid hm
    clear hm
    go_upto_region 5 with fail
    refine wp_region_held_drew (S := (fun W_ => (Has W_ (w.heap.size) 27 (tpC t a)) ∧ (Below w2.heap.size w2 W_))) (by kernel_rfl) ?_ (fun hHeld => ?_)
    · exact ⟨(H0.out _ (HX.out _ HB.out)).draw, below_dr11 HB.out⟩
    refine wpAnyH_take (i := 0) (oi := ⟨some 21, _, _, _, _, _⟩) (v := ?_) rfl (by kernel_rfl) (by kernel_rfl) (by kernel_rfl) (fun _ _ _ h => h) (Or.inl ⟨by rfl, ?_⟩) (by assumption) ?_
    rotate_left
    · intro w_ hSw; (try dsimp only at hSw); go_simp <;> with_reducible rfl
    simp only [Act.put, List.setIfInBounds_toArray, List.set_cons_zero, List.set_cons_succ]
    refine wpAnyH_take (i := 1) (oi := ⟨some 22, _, _, _, _, _⟩) (v := .agg (tpC t a)) rfl (by kernel_rfl) (by kernel_rfl) (by kernel_rfl) (fun _ _ _ h => h) (yields_load_row11 27 _ rfl (w.heap.size) rfl 27 (tpC t a) _ (fun _ ⟨h_, _⟩ => h_) Tryz.underlying27 rfl (by kernel_rfl) (by rfl)) (by assumption) ?_
    simp only [Act.put, List.setIfInBounds_toArray, List.set_cons_zero, List.set_cons_succ]
    refine wpAnyH_take (i := 2) (oi := ⟨some 23, _, _, _, _, _⟩) (v := ?_) rfl (by kernel_rfl) (by kernel_rfl) (by kernel_rfl) (fun _ _ _ h => h) (Or.inl ⟨by rfl, ?_⟩) (by assumption) ?_
    rotate_left
    · intro w_ hSw; (try dsimp only at hSw); go_simp <;> with_reducible rfl
    simp only [Act.put, List.setIfInBounds_toArray, List.set_cons_zero, List.set_cons_succ]
    refine wpAnyH_take (i := 3) (oi := ⟨some 24, _, _, _, _, _⟩) (v := ?_) rfl (by kernel_rfl) (by kernel_rfl) (by kernel_rfl) (fun _ _ _ h => h) (Or.inl ⟨by rfl, ?_⟩) (by assumption) ?_
    rotate_left
    · intro w_ hSw; (try dsimp only at hSw); go_simp <;> with_reducible rfl
    simp only [Act.put, List.setIfInBounds_toArray, List.set_cons_zero, List.set_cons_succ]
    refine wpAnyH_take (i := 4) (oi := ⟨some 25, _, _, _, _, _⟩) (v := ?_) rfl (by kernel_rfl) (by kernel_rfl) (by kernel_rfl) (fun _ _ _ h => h) (Or.inl ⟨by rfl, ?_⟩) (by assumption) ?_
    rotate_left
    · intro w_ hSw; (try dsimp only at hSw); go_simp <;> with_reducible rfl
    simp only [Act.put, List.setIfInBounds_toArray, List.set_cons_zero, List.set_cons_succ]
    refine wpAnyH_take (i := 5) (oi := ⟨some 26, _, _, _, _, _⟩) (v := ?_) rfl (by kernel_rfl) (by kernel_rfl) (by kernel_rfl) (fun _ _ _ h => h) (Or.inl ⟨by rfl, ?_⟩) (by assumption) ?_
    rotate_left
    · intro w_ hSw; (try dsimp only at hSw); go_simp <;> with_reducible rfl
    simp only [Act.put, List.setIfInBounds_toArray, List.set_cons_zero, List.set_cons_succ]
    refine wpAnyH_take (i := 6) (oi := ⟨some 27, _, _, _, _, _⟩) (v := ?_) rfl (by kernel_rfl) (by kernel_rfl) (by kernel_rfl) (fun _ _ _ h => h) (Or.inl ⟨by rfl, ?_⟩) (by assumption) ?_
    rotate_left
    · intro w_ hSw; (try dsimp only at hSw); obtain ⟨s0, s1⟩ := hSw; (have q_ := (HC.out w_ (HBA.out _ (HX.out _ s1))).1); go_simp <;> with_reducible rfl
    simp only [Act.put, List.setIfInBounds_toArray, List.set_cons_zero, List.set_cons_succ]
    refine wpAnyH_ready (rs := [7]) (by kernel_rfl) (by simp) ?_
    refine AllReadyH.cons (o := ⟨some 28, _, _, _, _, _⟩) rfl (fun K hK => ?_) AllReadyH.nil
    go_simp
    obtain ⟨s0, s1⟩ := hHeld
    refine (rlext_any t a sr _ (HT.out _ (HBA.out _ (HX.out _ s1))) HLT.out).mono ?_
    rintro e_ v1 ⟨X1, x1_, rfl, hs1, _, hb1⟩
    have HS1 := Lib.hid hs1
    go_wp2_with fail
    refine hK.out _ _ ?_ (fun hHeld => ?_)
    · exact ⟨s0.under hb1 s0.lt, s1.trans (hb1.mono s1.size)⟩
    clear hK K s0 s1
    try simp only [Act.put, List.setIfInBounds_toArray, List.set_cons_zero, List.set_cons_succ]
    refine wpAnyH_ready (rs := [8]) (by kernel_rfl) (by simp) ?_
    refine AllReadyH.cons (o := ⟨some 29, _, _, _, _, _⟩) rfl (fun K hK => ?_) AllReadyH.nil
    go_simp
    obtain ⟨s0, s1⟩ := hHeld
    refine (rsmeets_any (extL t route) (extL t sr) X X1 _ x _ x1_ _ (HOW.out _ s1) HS1.out (by have := HK0.out; omega) (by have := ext_few HLT.out sr; omega)).mono ?_
    rw [HM.out]
    rintro e_ v2 ⟨rfl, hb2⟩
    go_wp2_with fail
    refine hK.out _ _ ?_ (fun hHeld => ?_)
    · exact ⟨s0.under hb2 s0.lt, s1.trans (hb2.mono s1.size)⟩
    clear hK K s0 s1
    try simp only [Act.put, List.setIfInBounds_toArray, List.set_cons_zero, List.set_cons_succ]
    refine wpAnyH_take (i := 9) (oi := ⟨some 11, _, _, _, _, _⟩) (v := ?_) rfl (by kernel_rfl) (by kernel_rfl) (by kernel_rfl) (fun _ _ _ h => h) (Or.inl ⟨by rfl, ?_⟩) (by assumption) ?_
    rotate_left
    · intro w_ hSw; (try dsimp only at hSw); go_simp <;> with_reducible rfl
    simp only [Act.put, List.setIfInBounds_toArray, List.set_cons_zero, List.set_cons_succ]
    refine wpAnyH_done (by kernel_rfl) ?_ _
    have HB3 := Lib.hid hHeld.2
    obtain ⟨wq, hwq⟩ : ∃ wq, wq = v2 := ⟨_, rfl⟩
    subst hwq
    have d1 := (HC.out wq (HBA.out _ (HX.out _ HB3.out))).2.1
    clear hHeld HB HS1
    have HMK : Hid (metK t route train ⟨sr, st, sn⟩ = (!(st == train) && m)) := Lib.hid (by rw [← HM.out]; rfl)
    obtain ⟨q, hq⟩ : ∃ q, (st == train) = q := ⟨_, rfl⟩
    have z1 : (st != train) = !q := by rw [← hq]; rfl
    rw [hq] at HMK
    have HIN := Lib.hid (show i < n ∧ n - i ≤ k1 from ⟨hlt, hik⟩)
    clear hlt hi hik
    cases q with
    | true =>
      have HF : Hid (metK t route train ⟨sr, st, sn⟩ = false) := Lib.hid (by rw [HMK.out]; rfl)
      go_wp2
      go_roundg (k1 - 1)
      case measure => have := HIN.out; omega
      case rel =>
        refine ⟨i + 1, by have := HIN.out; omega, by have := HIN.out; omega, by go_num, Lib.hid fun j s' hj hs' => ?_, HB3⟩
        by_cases hji : j = i
        · subst hji; rw [HXS.out] at hs'; injection hs' with hs'; rw [← hs']; exact HF.out
        · exact HNO.out j s' (by omega) hs'
    | false =>
      cases m with
      | false =>
        have HF : Hid (metK t route train ⟨sr, st, sn⟩ = false) := Lib.hid (by rw [HMK.out]; rfl)
        go_wp2
        go_roundg (k1 - 1)
        case measure => have := HIN.out; omega
        case rel =>
          refine ⟨i + 1, by have := HIN.out; omega, by have := HIN.out; omega, by go_num, Lib.hid fun j s' hj hs' => ?_, HB3⟩
          by_cases hji : j = i
          · subst hji; rw [HXS.out] at hs'; injection hs' with hs'; rw [← hs']; exact HF.out
          · exact HNO.out j s' (by omega) hs'
      | true =>
        have HF : Hid (R = true) := Lib.hid (by rw [← HR.out]; unfold metB; rw [List.any_eq_true]; exact ⟨_, List.mem_of_getElem? HXS.out, by rw [HMK.out]; rfl⟩)
        go_wp2
        go_ret
        exact ⟨by rw [HF.out]; rfl, HBA.out _ (HX.out _ HB3.out)⟩

set_option maxRecDepth 100000 in
set_option maxHeartbeats 8000000 in
theorem rllocked_any (t : Tp3) (a : TpA) (l : List Lc3) (train : Int) (A : Option Addr) (n c : Nat) (w : World) (ht : TopR w t a) (hl : lightT t = true) (hcj : t.joints.length ≤ a.cj) (hs : SlO lcC 3 w A n c l) (hn : n ≤ 100) :
    Calls Tryz.prog 18 #[.agg (tpC t a), .slice A n c, .int .i64 train] w fun r w' => ∃ X x, r = .returned (.slice X (lockedL t l train).length x) ∧ SlO snC 3 w' X (lockedL t l train).length x (lockedL t l train) ∧ (lockedL t l train).length ≤ x ∧ Below w.heap.size w w' := by
  obtain ⟨wa, hwa⟩ : ∃ wa, w.alloc (.cells (tpC t a) 27) = wa := ⟨_, rfl⟩
  have hbwa : Below w.heap.size w wa := by rw [← hwa]; exact (Below.refl _ _).alloc (Nat.le_refl _) _
  have h0 : Has wa (w.heap.size) 27 (tpC t a) := by rw [← hwa]; exact (Has.made _ _ _)
  have HWA := Lib.hid hwa; have HBWA := Lib.hid hbwa
  have HT := Lib.hid (fun W (hW : Below w.heap.size w W) => ht.under hW)
  have H0 := Lib.hid (fun W (hW : Below wa.heap.size wa W) => h0.under hW h0.lt)
  have HBA := Lib.hid (fun W (hW : Below wa.heap.size wa W) => hbwa.trans (hW.mono hbwa.size))
  have HLT := Lib.hid hl
  have HS := Lib.hid (fun W (hW : Below w.heap.size w W) => hs.under hW)
  have HL := Lib.hid hs.1
  have HCJ := Lib.hid hcj
  obtain ⟨R, hR⟩ : ∃ R, lockedL t l train = R := ⟨_, rfl⟩
  have HR := Lib.hid hR
  rw [hR]
  have HNB := Lib.hid hn
  clear hwa hbwa h0 ht hl hs hR hcj hn
  go_enter Tryz.func18, Tryz.ntmps18
  go_upto_region 1 with fail
  rw [HWA.out]
  clear HWA
  go_wp2_with (with_reducible refine wpList_load_row (o := ⟨some 10, _, _, _, _, _⟩) rfl 27 _ rfl (w.heap.size) rfl 27 (tpC t a) (0, 0) _ ((H0.out wa (Below.refl _ _))).raw11 Tryz.underlying27 rfl (by kernel_rfl) ?_)
  refine (rcheck_any t a wa (HT.out _ HBWA.out) HLT.out HCJ.out).mono ?_
  rintro e w1 ⟨rfl, hb1⟩
  have HB1 := Lib.hid hb1
  clear hb1
  by_cases z0 : checkE t = 0
  rotate_left
  · have q0 : (checkE t != 0) = true := by simp [z0]
    obtain rfl : R = [] := by rw [← HR.out]; unfold lockedL; rw [if_neg z0]
    go_wp2
    go_ret
    exact ⟨none, 0, rfl, SlO.nil _ _ _, Nat.le_refl _, HBA.out _ HB1.out⟩
  have HZ := Lib.hid z0
  have HR := Lib.hid (show normL ((ofL l train).flatMap fun k => extL t k.route) = R from by rw [← HR.out]; unfold lockedL; rw [if_pos z0])
  rw [z0]
  clear z0
  go_wp2_with fail
  refine (rlof_any l train A n c w1 (HS.out _ (HBA.out _ HB1.out)) (by have := HNB.out; omega)).mono ?_
  rintro e w2 ⟨X0, k0, x0, rfl, ho, hb2⟩
  have HLO := Lib.hid ho.2
  have HOS := Lib.hid ho.sl
  have HKB : Hid (k0 ≤ 100) := Lib.hid (by rw [← ho.2]; have h1_ := HL.out; have h2_ := HNB.out; have h3_ : (ofL l train).length ≤ l.length := List.length_filter_le _ _; omega)
  have HX := Lib.hid (fun W (hW : Below w2.heap.size w2 W) => (show Below wa.heap.size wa W from HB1.out.trans ((hb2.trans (hW.mono hb2.size)).mono HB1.out.size)))
  clear ho hb2 HB1
  obtain ⟨O, hO⟩ : ∃ O, ofL l train = O := ⟨_, rfl⟩
  rw [hO] at HR HLO HOS
  clear hO
  have hx0 : (0 : Int) ≤ k0 := by omega
  go_wp2
  go_loopg [8, 9] k0 (fun kk v8 v9 wl => ∃ (i k : Nat) (X : Option Addr) (x : Nat), i ≤ k0 ∧ k0 - i ≤ kk ∧ v9 = .int .i64 i ∧ v8 = .slice X k x ∧ Hid (k ≤ 16 * i) ∧ Hid (OwR snC 3 69 w2.heap.size wl X k x ((O.take i).flatMap fun k => extL t k.route)) ∧ Hid (Below w2.heap.size w2 wl))
  case atStart => exact ⟨0, 0, none, 0, by omega, by omega, rfl, rfl, Lib.hid (by omega), Lib.hid (OwR.nil _ _ _ _ _), Lib.hid (Below.refl _ _)⟩
  case round =>
    obtain ⟨i, k, X, x, hi, hik, rfl, rfl, HK, HO, HB⟩ := hrel
    obtain ⟨k1, hk1⟩ : ∃ k1, k1 = gk := ⟨_, rfl⟩
    subst hk1
    obtain ⟨wv, hwv⟩ : ∃ wv, wv = wr := ⟨_, rfl⟩
    subst hwv
    by_cases hlt : i < k0
    rotate_left
    · obtain rfl : i = k0 := by omega
      have x1 : ¬ (i : Int) < i := by omega
      have HE : Hid (O.take i = O) := Lib.hid (List.take_of_length_le (by rw [HLO.out]; exact Nat.le_refl _))
      clear hik hlt
      go_wp2_with fail
      refine (rsnorm_any _ X k x wv HO.out.sl (by have h1_ := HK.out; have h2_ := HKB.out; omega)).mono ?_
      rw [HE.out, HR.out]
      rintro e_ w3 ⟨Y, y, rfl, hs1, hc1, hb1⟩
      have HS1 := Lib.hid hs1; have HC1 := Lib.hid hc1; have HB3 := Lib.hid (HB.out.trans (hb1.mono HB.out.size))
      clear hs1 hc1 hb1
      go_wp2
      go_ret
      exact ⟨Y, y, rfl, HS1.out, HC1.out, HBA.out _ (HX.out _ HB3.out)⟩
    obtain ⟨s, hs⟩ : ∃ s, O[i]? = some s := ⟨_, List.getElem?_eq_getElem (by rw [HLO.out]; exact hlt)⟩
    have HTK : Hid ((O.take (i + 1)).flatMap (fun k => extL t k.route) = (O.take i).flatMap (fun k => extL t k.route) ++ extL t s.route) := Lib.hid (by rw [List.take_add_one, hs, List.flatMap_append]; simp)
    obtain ⟨bk, off, rfl, hc⟩ := HOS.out.locks hs
    have HC := Lib.hid hc
    clear hs hc
    obtain ⟨sr, st, sn⟩ := s
    dsimp only at *
    have x1 : (i : Int) < k0 := by omega
    have x2 : (0 : Int) ≤ i := by omega
    have HIN := Lib.hid (show i < k0 ∧ k0 - i ≤ k1 from ⟨hlt, hik⟩)
    have HE8 := Lib.hid (ext_few8 HZ.out sr)
    clear hlt hi hik
    go_upto_region 8 with fail
    refine wp_region_held_drew (S := (fun W_ => (Has W_ (w.heap.size) 27 (tpC t a)) ∧ (Below w2.heap.size w2 W_))) (by kernel_rfl) ?_ (fun hHeld => ?_)
    · exact ⟨(H0.out _ (HX.out _ HB.out)).draw, below_dr11 HB.out⟩
    refine wpAnyH_take (i := 0) (oi := ⟨some 22, _, _, _, _, _⟩) (v := ?_) rfl (by kernel_rfl) (by kernel_rfl) (by kernel_rfl) (fun _ _ _ h => h) (Or.inl ⟨by rfl, ?_⟩) (by assumption) ?_
    rotate_left
    · intro w_ hSw; (try dsimp only at hSw); go_simp <;> with_reducible rfl
    simp only [Act.put, List.setIfInBounds_toArray, List.set_cons_zero, List.set_cons_succ]
    refine wpAnyH_take (i := 1) (oi := ⟨some 23, _, _, _, _, _⟩) (v := .agg (tpC t a)) rfl (by kernel_rfl) (by kernel_rfl) (by kernel_rfl) (fun _ _ _ h => h) (yields_load_row11 27 _ rfl (w.heap.size) rfl 27 (tpC t a) _ (fun _ ⟨h_, _⟩ => h_) Tryz.underlying27 rfl (by kernel_rfl) (by rfl)) (by assumption) ?_
    simp only [Act.put, List.setIfInBounds_toArray, List.set_cons_zero, List.set_cons_succ]
    refine wpAnyH_take (i := 2) (oi := ⟨some 24, _, _, _, _, _⟩) (v := ?_) rfl (by kernel_rfl) (by kernel_rfl) (by kernel_rfl) (fun _ _ _ h => h) (Or.inl ⟨by rfl, ?_⟩) (by assumption) ?_
    rotate_left
    · intro w_ hSw; (try dsimp only at hSw); go_simp <;> with_reducible rfl
    simp only [Act.put, List.setIfInBounds_toArray, List.set_cons_zero, List.set_cons_succ]
    refine wpAnyH_take (i := 3) (oi := ⟨some 25, _, _, _, _, _⟩) (v := ?_) rfl (by kernel_rfl) (by kernel_rfl) (by kernel_rfl) (fun _ _ _ h => h) (Or.inl ⟨by rfl, ?_⟩) (by assumption) ?_
    rotate_left
    · intro w_ hSw; (try dsimp only at hSw); go_simp <;> with_reducible rfl
    simp only [Act.put, List.setIfInBounds_toArray, List.set_cons_zero, List.set_cons_succ]
    refine wpAnyH_take (i := 4) (oi := ⟨some 26, _, _, _, _, _⟩) (v := ?_) rfl (by kernel_rfl) (by kernel_rfl) (by kernel_rfl) (fun _ _ _ h => h) (Or.inl ⟨by rfl, ?_⟩) (by assumption) ?_
    rotate_left
    · intro w_ hSw; (try dsimp only at hSw); go_simp <;> with_reducible rfl
    simp only [Act.put, List.setIfInBounds_toArray, List.set_cons_zero, List.set_cons_succ]
    refine wpAnyH_take (i := 5) (oi := ⟨some 27, _, _, _, _, _⟩) (v := ?_) rfl (by kernel_rfl) (by kernel_rfl) (by kernel_rfl) (fun _ _ _ h => h) (Or.inl ⟨by rfl, ?_⟩) (by assumption) ?_
    rotate_left
    · intro w_ hSw; (try dsimp only at hSw); go_simp <;> with_reducible rfl
    simp only [Act.put, List.setIfInBounds_toArray, List.set_cons_zero, List.set_cons_succ]
    refine wpAnyH_take (i := 6) (oi := ⟨some 28, _, _, _, _, _⟩) (v := ?_) rfl (by kernel_rfl) (by kernel_rfl) (by kernel_rfl) (fun _ _ _ h => h) (Or.inl ⟨by rfl, ?_⟩) (by assumption) ?_
    rotate_left
    · intro w_ hSw; (try dsimp only at hSw); obtain ⟨s0, s1⟩ := hSw; (have q_ := (HC.out w_ s1).1); go_simp <;> with_reducible rfl
    simp only [Act.put, List.setIfInBounds_toArray, List.set_cons_zero, List.set_cons_succ]
    refine wpAnyH_ready (rs := [7]) (by kernel_rfl) (by simp) ?_
    refine AllReadyH.cons (o := ⟨some 29, _, _, _, _, _⟩) rfl (fun K hK => ?_) AllReadyH.nil
    go_simp
    obtain ⟨s0, s1⟩ := hHeld
    refine (rlext_any t a sr _ (HT.out _ (HBA.out _ (HX.out _ s1))) HLT.out).mono ?_
    rintro e_ v1 ⟨X1, x1_, rfl, hs1, _, hb1⟩
    have HS1 := Lib.hid hs1; have HO1 := Lib.hid ((show OwR snC 3 69 w2.heap.size wv.drew X k x ((O.take i).flatMap fun k => extL t k.route) from HO.out).under hb1)
    have HB1 := Lib.hid ((below_dr11 HB.out).trans (hb1.mono HB.out.size))
    go_wp2_with fail
    refine hK.out _ _ ?_ (fun hHeld => ?_)
    · exact ⟨s0.under hb1 s0.lt, s1.trans (hb1.mono s1.size)⟩
    clear hK K s0 s1
    try simp only [Act.put, List.setIfInBounds_toArray, List.set_cons_zero, List.set_cons_succ]
    refine wpAnyH_ready (rs := [8]) (by kernel_rfl) (by simp) ?_
    refine AllReadyH.cons (o := ⟨some 30, _, _, _, _, _⟩) rfl (fun K hK => ?_) AllReadyH.nil
    obtain ⟨s0, s1⟩ := hHeld
    obtain ⟨hO, hSL, h1, hBD⟩ := pourR 24 HO1.out HS1.out one_sn15 HB1.out.size (by have h_ := HK.out; have h2_ := HKB.out; have h3_ := HE8.out; have h4_ := HIN.out; omega) (by omega)
    refine step_pour16 (o := ⟨some 30, _, _, _, _, _⟩) (by rfl) (.tmp 22) (.tmp 29) 44 (by rfl) w2.heap.size 69 (.agg #[.int .i64 0, .int .i64 0, .int .i64 0]) 3 24 Tryz.underlying44 info_span15 (by rfl) (by decide) X k x _ (by rfl) hO X1 _ x1_ _ (by rfl) hSL h1 hBD ?_
    intro X3 x3 v3 ho3 hg3
    have HO3 := Lib.hid (OwR.poured HO1.out.2 rfl ho3.out)
    refine hK.out _ _ ?_ (fun hHeld => ?_)
    · exact ⟨s0.grow hg3.out (fun e => own_apart hO.out s0 (by decide) e.symm), below_own s1 s1.size hO.out (Nat.le_refl _) rfl hg3.out⟩
    clear hK K s0 s1
    try simp only [Act.put, List.setIfInBounds_toArray, List.set_cons_zero, List.set_cons_succ]
    refine wpAnyH_take (i := 9) (oi := ⟨some 8, _, _, _, _, _⟩) (v := ?_) rfl (by kernel_rfl) (by kernel_rfl) (by kernel_rfl) (fun _ _ _ h => h) (Or.inl ⟨by rfl, ?_⟩) (by assumption) ?_
    rotate_left
    · intro w_ hSw; (try dsimp only at hSw); go_simp <;> with_reducible rfl
    simp only [Act.put, List.setIfInBounds_toArray, List.set_cons_zero, List.set_cons_succ]
    refine wpAnyH_done (by kernel_rfl) ?_ _
    have HB3 := Lib.hid hHeld.2
    rw [← HTK.out] at HO3
    clear hHeld HB hO hSL h1 hBD ho3 hg3 HO1 HS1 HB1 HO
    generalize (extL t sr).length = ke at *
    go_wp2
    go_roundg (k1 - 1)
    case measure => have := HIN.out; omega
    case rel => exact ⟨i + 1, k + ke, X3, x3, by have := HIN.out; omega, by have := HIN.out; omega, by rw [IntWalk.wrap64_in _ (by have h1_ := HIN.out; have h2_ := HKB.out; omega)]; go_num, rfl, Lib.hid (by have h1_ := HK.out; have h2_ := HE8.out; omega), HO3, HB3⟩

set_option maxRecDepth 100000 in
set_option maxHeartbeats 8000000 in
theorem rllocks_any (l m : List Lc3) (A B : Option Addr) (n c p d : Nat) (w : World) (hl : SlO lcC 3 w A n c l) (hm : SlO lcC 3 w B p d m) (hn : n ≤ 1048576) (hp : p ≤ 1048576) :
    Calls Tryz.prog 19 #[.slice A n c, .slice B p d] w fun r w' => r = .returned (.bool (sameK l m)) ∧ Below w.heap.size w w' := by
  have HL := Lib.hid hl
  have HM := Lib.hid hm
  have HQ := Lib.hid (fun x y => neq_lc16 x y)
  obtain ⟨R, hR⟩ : ∃ R, sameK l m = R := ⟨_, rfl⟩
  have HR := Lib.hid hR
  rw [hR]
  clear hR hl hm
  by_cases hnp : n = p
  rotate_left
  · have HF : Hid (R = false) := Lib.hid (by
      rw [← HR.out]
      cases hq : sameK l m with
      | false => rfl
      | true => exact absurd (by rw [← HL.out.1, (sameK_iff l m).1 hq, HM.out.1]) hnp)
    have z0 : ((n : Int) != p) = true := by simp; omega
    have z1 : ((n : Int) == p) = false := by simp; omega
    have z2 : ¬ (n : Int) = p := by omega
    clear hnp
    go_enter Tryz.func19, Tryz.ntmps19
    go_wp2
    go_ret
    exact ⟨by rw [HF.out]; rfl, Below.refl _ _⟩
  subst hnp
  have z0 : ((n : Int) != n) = false := by simp
  go_enter Tryz.func19, Tryz.ntmps19
  go_wp2
  go_loopg [5] n (fun kk v5 wl => ∃ i j : Nat, i ≤ n ∧ n - i ≤ kk ∧ v5 = .int .i64 i ∧ Hid (∀ j x y, j < i → l[j]? = some x → m[j]? = some y → x = y) ∧ wl = w.drewN j)
  case atStart => exact ⟨0, 0, by omega, by omega, rfl, Lib.hid fun j x y h => absurd h (by omega), rfl⟩
  case round =>
    obtain ⟨i, nq, hi, hik, rfl, HNO, rfl⟩ := hrel
    by_cases hlt : i < n
    rotate_left
    · have x1 : ¬ (i : Int) < n := by omega
      have HF : Hid (R = true) := Lib.hid (by
        rw [← HR.out, sameK_iff]
        refine List.ext_getElem? fun j => ?_
        by_cases hj : j < n
        · have h1 := List.getElem?_eq_getElem (l := l) (i := j) (by rw [HL.out.1]; exact hj)
          have h2 := List.getElem?_eq_getElem (l := m) (i := j) (by rw [HM.out.1]; exact hj)
          rw [h1, h2, HNO.out j _ _ (by omega) h1 h2]
        · rw [List.getElem?_eq_none (by rw [HL.out.1]; omega), List.getElem?_eq_none (by rw [HM.out.1]; omega)])
      go_wp2
      go_ret
      exact ⟨by rw [HF.out]; rfl, below_draws (Below.refl _ _) _⟩
    obtain ⟨x, hx⟩ : ∃ x, l[i]? = some x := ⟨_, List.getElem?_eq_getElem (by rw [HL.out.1]; omega)⟩
    obtain ⟨y, hy⟩ : ∃ y, m[i]? = some y := ⟨_, List.getElem?_eq_getElem (by rw [HM.out.1]; omega)⟩
    obtain ⟨bk, off, rfl, d0, d1, d2⟩ := HL.out.lock hx
    obtain ⟨bm, om, rfl, f0, f1, f2⟩ := HM.out.lock hy
    have HX := Lib.hid hx; have HY := Lib.hid hy
    clear hx hy
    have x1 : (i : Int) < n := by omega
    have x2 : (0 : Int) ≤ i := by omega
    have q1 := HQ.out x y
    generalize hb : eqK x y = b at *
    have HBE := Lib.hid hb
    clear hb
    unfold lcA at q1
    go_upto_region 6 with fail
    cases b with
    | false =>
      have HF : Hid (R = false) := Lib.hid (by
        rw [← HR.out]
        cases hq : sameK l m with
        | false => rfl
        | true =>
          have h1 := (sameK_iff l m).1 hq
          have h2 := HX.out
          rw [h1, HY.out] at h2
          injection h2 with h2
          have h3 := HBE.out
          rw [h2, (eqK_iff x x).2 rfl] at h3
          cases h3)
      go_quiet (fail)
      go_wp2
      go_ret
      exact ⟨by rw [HF.out]; rfl, by first | exact below_draws (Below.refl _ _) _ | (rw [World.drewN_drewN]; exact below_draws (Below.refl _ _) _)⟩
    | true =>
      have HE : Hid (x = y) := Lib.hid ((eqK_iff x y).1 HBE.out)
      go_quiet (fail)
      go_wp2
      go_roundg (gk - 1)
      case measure => omega
      case rel =>
        refine ⟨i + 1, _, by omega, by omega, by go_num, Lib.hid fun j x' y' hj hx hy => ?_, by first | rfl | rw [World.drewN_drewN]⟩
        by_cases hji : j = i
        · subst hji; rw [HX.out] at hx; rw [HY.out] at hy; injection hx with hx; injection hy with hy; rw [← hx, ← hy]; exact HE.out
        · exact HNO.out j x' y' (by omega) hx hy

set_option maxRecDepth 100000 in
set_option maxHeartbeats 8000000 in
theorem rlsame_any (x y : It3) (A B : Option Addr) (n c m d : Nat) (w : World) (ha : SlO lcC 3 w A n c x.locks) (hb : SlO lcC 3 w B m d y.locks) (hn : n ≤ 1048576) (hm : m ≤ 1048576) :
    Calls Tryz.prog 9 #[.agg #[.slice A n c, .int .i64 x.next], .agg #[.slice B m d, .int .i64 y.next]] w fun r w' => r = .returned (.bool (sameI x y)) ∧ Below w.heap.size w w' := by
  obtain ⟨wa, hwa⟩ : ∃ wa, (w.alloc (.cells #[.slice A n c, .int .i64 x.next] 30)).alloc (.cells #[.slice B m d, .int .i64 y.next] 30) = wa := ⟨_, rfl⟩
  have hbwa : Below w.heap.size w wa := by rw [← hwa]; exact ((Below.refl _ _).alloc (Nat.le_refl _) _).alloc (by simp) _
  have h0 : Has wa (w.heap.size) 30 #[.slice A n c, .int .i64 x.next] := by rw [← hwa]; exact ((Has.made _ _ _).beside _)
  have h1 : Has wa (w.heap.size + 1) 30 #[.slice B m d, .int .i64 y.next] := by rw [← hwa]; exact (has_at11 (by simp))
  have HWA := Lib.hid hwa; have HBWA := Lib.hid hbwa
  have H := Lib.hid (rllocks_any x.locks y.locks A B n c m d wa (ha.under hbwa) (hb.under hbwa) hn hm)
  have HX := Lib.hid (fun W (hW : Below wa.heap.size wa W) => h0.under hW h0.lt)
  have HY := Lib.hid (fun W (hW : Below wa.heap.size wa W) => h1.under hW h1.lt)
  have c0 : wa.cell? ⟨w.heap.size, 0, none⟩ = some (.slice A n c) := h0.cell 0
  have d0 : wa.cell? ⟨w.heap.size + 1, 0, none⟩ = some (.slice B m d) := h1.cell 0
  unfold sameI
  generalize sameK x.locks y.locks = q at *
  obtain ⟨xl, xn⟩ := x
  obtain ⟨yl, yn⟩ := y
  dsimp only at *
  clear hwa hbwa h0 h1 ha hb hn hm
  cases q with
  | false =>
    rw [Bool.false_and]
    go_enter Tryz.func9, Tryz.ntmps9
    go_upto_region 1 with fail
    rw [HWA.out]
    clear HWA
    go_wp2_with fail
    refine H.out.mono ?_
    rintro e_ w1 ⟨rfl, hb1⟩
    have HB1 := Lib.hid (HBWA.out.trans (hb1.mono HBWA.out.size))
    clear hb1 H HX HY HBWA c0 d0
    go_wp2
    go_ret
    exact ⟨by first | rfl | simp, HB1.out⟩
  | true =>
    rw [Bool.true_and]
    go_enter Tryz.func9, Tryz.ntmps9
    go_upto_region 1 with fail
    rw [HWA.out]
    clear HWA
    go_wp2_with fail
    refine H.out.mono ?_
    rintro e_ w1 ⟨rfl, hb1⟩
    have HB1 := Lib.hid (HBWA.out.trans (hb1.mono HBWA.out.size))
    have c1 : w1.cell? ⟨w.heap.size, 1, none⟩ = some (.int .i64 xn) := (HX.out w1 hb1).cell 1
    have d1 : w1.cell? ⟨w.heap.size + 1, 1, none⟩ = some (.int .i64 yn) := (HY.out w1 hb1).cell 1
    clear hb1 H HX HY HBWA c0 d0
    go_wp2
    go_ret
    exact ⟨by first | rfl | simp, HB1.out⟩

end Go.Proofs.YteioefgckigbcaaGreat

/-
  linesideref16, by contract: May.
-/
namespace Go.Proofs.YteioefgckigbcaaGreat

open Go.RowKit

open Go.Great

theorem SlO.take16 {α : Type} {f : α → List Value} {k : Nat} {w : World} {A : Option Addr} {n c : Nat} {l : List α} (h : SlO f k w A n c l) (hf : ∀ x, (f x).length = k) {i : Nat} (hi : i ≤ n) : SlO f k w A i c (l.take i) := by
  have hl := h.1
  refine ⟨by rw [List.length_take]; omega, ?_, fun e => ?_, fun ad e j u hu => ?_⟩
  · rw [flat_len hf, List.length_take]
    congr 1
    omega
  · obtain ⟨h1, h2⟩ := h.2.2.1 e
    exact ⟨by omega, h2⟩
  · refine h.2.2.2 ad e j u ?_
    have h1 : l.flatMap f = (l.take i).flatMap f ++ (l.drop i).flatMap f := by rw [← List.flatMap_append, List.take_append_drop]
    rw [h1, List.getElem?_append_left (List.getElem?_eq_some_iff.1 hu).1]
    exact hu
theorem last_take16 {l : List Lc3} {i : Nat} {p : Lc3} (h : l[i]? = some p) (n : Int) : lastB (l.take (i + 1)) n = decide (p.no < n) := by
  rw [List.take_add_one, h]
  unfold lastB
  show (match (l.take i ++ [p]).getLast? with | none => true | some p => decide (p.no < n)) = _
  rw [List.getLast?_concat]
theorem may_step16 {t : Tp3} {next : Int} {l : List Lc3} {i : Nat} {k : Lc3} (h : l[i]? = some k) : mayGo t next (l.take i) (l.drop i) = (okK t next (l.take i) k && mayGo t next (l.take (i + 1)) (l.drop (i + 1))) := by
  rw [drop_at15 h, mayGo, List.take_add_one, h]
  rfl

set_option maxRecDepth 100000 in
set_option maxHeartbeats 20000000 in
theorem rlmay_any (t : Tp3) (a : TpA) (l : List Lc3) (next : Int) (A : Option Addr) (n c : Nat) (w : World) (ht : TopR w t a) (hl : lightT t = true) (hcj : t.joints.length ≤ a.cj) (hs : SlO lcC 3 w A n c l) (hc : n ≤ c) (hn : n ≤ 1000) :
    Calls Tryz.prog 13 #[.agg (tpC t a), .agg #[.slice A n c, .int .i64 next]] w fun r w' => r = .returned (.bool (mayB t ⟨l, next⟩)) ∧ Below w.heap.size w w' := by
  obtain ⟨wa, hwa⟩ : ∃ wa, (w.alloc (.cells (tpC t a) 27)).alloc (.cells #[.slice A n c, .int .i64 next] 30) = wa := ⟨_, rfl⟩
  have hbwa : Below w.heap.size w wa := by rw [← hwa]; exact ((Below.refl _ _).alloc (Nat.le_refl _) _).alloc (by simp) _
  have h0 : Has wa (w.heap.size) 27 (tpC t a) := by rw [← hwa]; exact ((Has.made _ _ _).beside _)
  have h1 : Has wa (w.heap.size + 1) 30 #[.slice A n c, .int .i64 next] := by rw [← hwa]; exact (has_at11 (by simp))
  have HWA := Lib.hid hwa; have HBWA := Lib.hid hbwa
  have HT := Lib.hid (fun W (hW : Below w.heap.size w W) => ht.under hW)
  have H0 := Lib.hid (fun W (hW : Below wa.heap.size wa W) => h0.under hW h0.lt)
  have H1 := Lib.hid (fun W (hW : Below wa.heap.size wa W) => h1.under hW h1.lt)
  have HBA := Lib.hid (fun W (hW : Below wa.heap.size wa W) => hbwa.trans (hW.mono hbwa.size))
  have HLT := Lib.hid hl
  have HS := Lib.hid (fun W (hW : Below w.heap.size w W) => hs.under hW)
  have HL := Lib.hid hs.1
  have HCJ := Lib.hid hcj
  have HCC := Lib.hid hc
  obtain ⟨R, hR⟩ : ∃ R, mayB t ⟨l, next⟩ = R := ⟨_, rfl⟩
  have HR : Hid (R = (decide (checkE t = 0) && (decide (l.length ≤ 24) && (decide (1 ≤ next) && (decide (next ≤ 1099511627776) && mayGo t next [] l))))) := Lib.hid (by rw [← hR]; rfl)
  rw [hR]
  have HNN := Lib.hid (light_nums13 hl)
  clear hwa hbwa h0 h1 ht hl hs hR hcj hc
  go_enter Tryz.func13, Tryz.ntmps13
  go_upto_region 1 with fail
  rw [HWA.out]
  clear HWA
  go_wp2_with (with_reducible refine wpList_load_row (o := ⟨some 12, _, _, _, _, _⟩) rfl 27 _ rfl (w.heap.size) rfl 27 (tpC t a) (0, 0) _ ((H0.out wa (Below.refl _ _))).raw11 Tryz.underlying27 rfl (by kernel_rfl) ?_)
  refine (rcheck_any t a wa (HT.out _ HBWA.out) HLT.out HCJ.out).mono ?_
  rintro e w1 ⟨rfl, hb1⟩
  have HB1 := Lib.hid hb1
  have b0 : w1.cell? ⟨w.heap.size + 1, 0, none⟩ = some (.slice A n c) := (H1.out w1 hb1).cell 0
  have b1 : w1.cell? ⟨w.heap.size + 1, 1, none⟩ = some (.int .i64 next) := (H1.out w1 hb1).cell 1
  clear hb1
  by_cases z0 : checkE t = 0
  rotate_left
  · have q0 : (checkE t != 0) = true := by simp [z0]
    have HF : Hid (R = false) := Lib.hid (by rw [HR.out]; rw [decide_eq_false z0]; rfl)
    go_wp2
    go_ret
    exact ⟨by rw [HF.out]; rfl, HBA.out _ HB1.out⟩
  have HZ := Lib.hid z0
  rw [z0]
  rw [z0] at HR
  clear z0
  by_cases z1 : n ≤ 24
  rotate_left
  · have z1' : (24 : Int) < n := by omega
    have HF : Hid (R = false) := Lib.hid (by rw [HR.out]; rw [decide_eq_false (by have := HL.out; omega : ¬ l.length ≤ 24)]; rfl)
    go_wp2
    go_ret
    exact ⟨by rw [HF.out]; rfl, HBA.out _ HB1.out⟩
  have z1' : ¬ (24 : Int) < n := by omega
  by_cases z2 : 1 ≤ next
  rotate_left
  · have z2' : next < 1 := by omega
    have HF : Hid (R = false) := Lib.hid (by rw [HR.out]; rw [decide_eq_true (by have := HL.out; omega : l.length ≤ 24), decide_eq_false z2]; rfl)
    go_wp2
    go_ret
    exact ⟨by rw [HF.out]; rfl, HBA.out _ HB1.out⟩
  have z2' : ¬ next < 1 := by omega
  by_cases z3 : next ≤ 1099511627776
  rotate_left
  · have z3' : 1099511627776 < next := by omega
    have HF : Hid (R = false) := Lib.hid (by rw [HR.out]; rw [decide_eq_true (by have := HL.out; omega : l.length ≤ 24), decide_eq_true z2, decide_eq_false z3]; rfl)
    go_wp2
    go_ret
    exact ⟨by rw [HF.out]; rfl, HBA.out _ HB1.out⟩
  have z3' : ¬ 1099511627776 < next := by omega
  have HR2 := Lib.hid (show mayGo t next [] l = R from by have h_ := HR.out; rw [decide_eq_true (by have := HL.out; omega : l.length ≤ 24), decide_eq_true z2, decide_eq_true z3] at h_; rw [h_]; rfl)
  clear HR
  have HN24 := Lib.hid z1
  have hx0 : (0 : Int) ≤ n := by omega
  go_wp2
  clear z1 z1' z2 z2' z3 z3' b0 b1
  go_loopg [5] n (fun kk v5 wl => ∃ i : Nat, i ≤ n ∧ n - i ≤ kk ∧ v5 = .int .i64 i ∧ Hid (mayGo t next (l.take i) (l.drop i) = R) ∧ Hid (Below w1.heap.size w1 wl))
  case atStart => exact ⟨0, by omega, by omega, rfl, HR2, Lib.hid (Below.refl _ _)⟩
  case round =>
    obtain ⟨i, hi, hik, rfl, HM, HB⟩ := hrel
    obtain ⟨k1, hk1⟩ : ∃ k1, k1 = gk := ⟨_, rfl⟩
    subst hk1
    obtain ⟨wv, hwv⟩ : ∃ wv, wv = wr := ⟨_, rfl⟩
    subst hwv
    clear HR2
    have HX := Lib.hid (fun W (hW : Below wv.heap.size wv W) => (show Below wa.heap.size wa W from HB1.out.trans ((HB.out.trans (hW.mono HB.out.size)).mono HB1.out.size)))
    have b0 : wv.cell? ⟨w.heap.size + 1, 0, none⟩ = some (.slice A n c) := (H1.out wv (HX.out _ (Below.refl _ _))).cell 0
    by_cases hlt : i < n
    rotate_left
    · obtain rfl : i = n := by omega
      have x1 : ¬ (i : Int) < i := by omega
      have HF : Hid (R = true) := Lib.hid (by rw [← HM.out, List.drop_of_length_le (by rw [HL.out]; exact Nat.le_refl _)]; rfl)
      clear hik hlt
      go_wp2
      go_ret
      exact ⟨by rw [HF.out]; rfl, HBA.out _ (HX.out _ (Below.refl _ _))⟩
    obtain ⟨s, hs⟩ : ∃ s, l[i]? = some s := ⟨_, List.getElem?_eq_getElem (by rw [HL.out]; exact hlt)⟩
    have HXS := Lib.hid hs
    have HMS := Lib.hid ((may_step16 (t := t) (next := next) hs).symm.trans HM.out)
    obtain ⟨bk, off, rfl, hc⟩ := (HS.out w (Below.refl _ _)).locks hs
    have HC := Lib.hid hc
    obtain ⟨d0, d1, d2⟩ := hc wv (HBA.out _ (HX.out _ (Below.refl _ _)))
    clear hs hc HM
    obtain ⟨kr, kt, kn⟩ := s
    dsimp only at *
    have x1 : (i : Int) < n := by omega
    have x2 : (0 : Int) ≤ i := by omega
    have HIN := Lib.hid (show i < n ∧ n - i ≤ k1 from ⟨hlt, hik⟩)
    go_upto_region 7 with fail
    obtain ⟨wb, hwb⟩ : ∃ wb, wv.alloc (.cells #[.int .i64 kr, .int .i64 kt, .int .i64 kn] 57) = wb := ⟨_, rfl⟩
    rw [hwb]
    have hbb : Below wv.heap.size wv wb := by rw [← hwb]; exact (Below.refl _ _).alloc (Nat.le_refl _) _
    have hH : Has wb wv.heap.size 57 #[.int .i64 kr, .int .i64 kt, .int .i64 kn] := by rw [← hwb]; exact Has.made _ _ _
    obtain ⟨gl, hgl⟩ : ∃ g, wv.heap.size = g := ⟨_, rfl⟩
    have HBB := Lib.hid hbb
    have HG := Lib.hid (fun W (hW : Below wb.heap.size wb W) => hH.under hW hH.lt)
    simp only [hgl] at HG ⊢
    have HXB := Lib.hid (fun W (hW : Below wb.heap.size wb W) => HX.out W (HBB.out.trans (hW.mono HBB.out.size)))
    have e0 : wb.cell? ⟨gl, 0, none⟩ = some (.int .i64 kr) := (HG.out wb (Below.refl _ _)).cell 0
    clear hwb hbb hH hgl d0 d1 d2 b0 x1 hlt hi hik
    go_wp2_with (with_reducible refine wpList_load_row (o := ⟨some 44, _, _, _, _, _⟩) rfl 27 _ rfl (w.heap.size) rfl 27 (tpC t a) (0, 0) _ ((H0.out wb (HXB.out wb (Below.refl _ _)))).raw11 Tryz.underlying27 rfl (by kernel_rfl) ?_)
    refine (rroute_any t a kr wb (HT.out _ (HBA.out _ (HXB.out wb (Below.refl _ _)))) (by have := HNN.out.2.2.2.1; omega)).mono ?_
    rintro e_ w2 ⟨v, hv, rfl, hb2⟩
    obtain ⟨PA, pc, rfl, _⟩ := hv
    have HB2 := Lib.hid hb2
    unfold rtA
    obtain ⟨b1, hb1⟩ : ∃ b, (routeF t kr).isSome = b := ⟨_, rfl⟩
    rw [hb1]
    have HQ1 := Lib.hid hb1
    clear hb1 hb2 e0
    generalize routeR t kr = rr
    obtain ⟨ri, rp, rg, rt⟩ := rr
    dsimp only
    generalize rp.length = rn
    go_upto_region 8 with fail
    obtain ⟨wc, hwc⟩ : ∃ wc, w2.alloc (.cells #[.int .i64 ri, .slice PA rn pc, .int .i64 rg, .int .i64 rt] 61) = wc := ⟨_, rfl⟩
    rw [hwc]
    have HBC := Lib.hid (show Below wb.heap.size wb wc from by rw [← hwc]; exact HB2.out.alloc HB2.out.size _)
    have HXC := Lib.hid (fun W (hW : Below wc.heap.size wc W) => HXB.out W (HBC.out.trans (hW.mono HBC.out.size)))
    have HGC := Lib.hid (fun W (hW : Below wc.heap.size wc W) => HG.out W (HBC.out.trans (hW.mono HBC.out.size)))
    have HWC := Lib.hid (fun W (hW : Below wc.heap.size wc W) => (HB.out.trans ((HBB.out.trans ((HBC.out.trans (hW.mono HBC.out.size)).mono HBB.out.size)).mono HB.out.size)))
    have e0 : wc.cell? ⟨gl, 0, none⟩ = some (.int .i64 kr) := (HGC.out wc (Below.refl _ _)).cell 0
    have e1 : wc.cell? ⟨gl, 1, none⟩ = some (.int .i64 kt) := (HGC.out wc (Below.refl _ _)).cell 1
    have e2 : wc.cell? ⟨gl, 2, none⟩ = some (.int .i64 kn) := (HGC.out wc (Below.refl _ _)).cell 2
    clear hwc HB2 HG
    go_wp2_with fail
    refine (rltrain_any kt wc).mono ?_
    rintro e_ w3 ⟨rfl, rfl⟩
    obtain ⟨b2, hb2⟩ : ∃ b, trainB kt = b := ⟨_, rfl⟩
    rw [hb2]
    have HQ2 := Lib.hid hb2
    clear hb2
    have f0 : wc.cell? ⟨w.heap.size + 1, 0, none⟩ = some (.slice (some ⟨bk, off, none⟩) n c) := (H1.out wc (HXC.out wc (Below.refl _ _))).cell 0
    have f1 : wc.cell? ⟨w.heap.size + 1, 1, none⟩ = some (.int .i64 next) := (H1.out wc (HXC.out wc (Below.refl _ _))).cell 1
    go_upto_region 9 with fail
    cases b1 with
    | false =>
      have HF : Hid (R = false) := Lib.hid (by rw [← HMS.out]; unfold okK; rw [HQ1.out]; rfl)
      go_quiet (fail)
      go_wp2
      go_ret
      exact ⟨by rw [HF.out]; rfl, HBA.out _ (HXC.out _ (below_draws (Below.refl _ _) _))⟩
    | true =>
    cases b2 with
    | false =>
      have HF : Hid (R = false) := Lib.hid (by rw [← HMS.out]; unfold okK; rw [HQ1.out, HQ2.out]; rfl)
      go_quiet (fail)
      go_wp2
      go_ret
      exact ⟨by rw [HF.out]; rfl, HBA.out _ (HXC.out _ (below_draws (Below.refl _ _) _))⟩
    | true =>
    by_cases y1 : kn < 1
    · have y1' : decide (kn < 1) = true := decide_eq_true y1
      have HF : Hid (R = false) := Lib.hid (by rw [← HMS.out]; unfold okK; rw [HQ1.out, HQ2.out, decide_eq_false (by omega : ¬ 1 ≤ kn)]; rfl)
      go_quiet (fail)
      go_wp2
      go_ret
      exact ⟨by rw [HF.out]; rfl, HBA.out _ (HXC.out _ (below_draws (Below.refl _ _) _))⟩
    have y1' : decide (kn < 1) = false := decide_eq_false y1
    by_cases y2 : next ≤ kn
    · have y2' : decide (next ≤ kn) = true := decide_eq_true y2
      have HF : Hid (R = false) := Lib.hid (by rw [← HMS.out]; unfold okK; rw [HQ1.out, HQ2.out, decide_eq_true (by omega : 1 ≤ kn), decide_eq_false (by omega : ¬ kn < next)]; rfl)
      go_quiet (fail)
      go_wp2
      go_ret
      exact ⟨by rw [HF.out]; rfl, HBA.out _ (HXC.out _ (below_draws (Below.refl _ _) _))⟩
    have y2' : decide (next ≤ kn) = false := decide_eq_false y2
    have HOK : Hid (∀ q, lastB (l.take i) kn = q → ((q && (!thereB (l.take i) kr && !metB t (l.take i) kr kt)) && mayGo t next (l.take (i + 1)) (l.drop (i + 1))) = R) := Lib.hid (fun q hq => by rw [← HMS.out]; unfold okK; rw [HQ1.out, HQ2.out, decide_eq_true (by omega : 1 ≤ kn), decide_eq_true (by omega : kn < next), hq]; rfl)
    clear HMS HQ1 HQ2
    by_cases y3 : i = 0
    · have y4 : decide ((0 : Int) < (i : Int)) = false := by simp; omega
      have y5 : decide (0 < i) = false := by simp; omega
      have y6 : ¬ 0 < i := by omega
      have HOK2 := Lib.hid (HOK.out true (by rw [y3]; rfl))
      clear y3
      rw [Bool.true_and] at HOK2
      clear HOK
      go_quiet (fail)
      obtain ⟨wd, hwd⟩ : ∃ wd, wc.drewN nq = wd := ⟨_, rfl⟩
      rw [hwd]
      have HD : Hid (Below wc.heap.size wc wd) := Lib.hid (by rw [← hwd]; exact below_draws (Below.refl _ _) _)
      clear hwd e0 e1 e2 f0 f1 y1 y1' y2 y2'
      clear y4 y5 y6
      obtain ⟨th, hth⟩ : ∃ b, thereB (l.take i) kr = b := ⟨_, rfl⟩
      obtain ⟨me, hme⟩ : ∃ b, metB t (l.take i) kr kt = b := ⟨_, rfl⟩
      rw [hth, hme] at HOK2
      have HTH := Lib.hid hth; have HME := Lib.hid hme
      clear hth hme
      have y8 : (i : Int) ≤ c := by have h1_ := HIN.out; have h2_ := HCC.out; omega
      have y9 : ¬ (c : Int) < i := by omega
      go_upto_region 11 with fail
      refine wp_region_held_drew (S := (fun W_ => (Has W_ (w.heap.size) 27 (tpC t a)) ∧ (Has W_ (w.heap.size + 1) 30 #[.slice (some ⟨bk, off, none⟩) n c, .int .i64 next]) ∧ (Has W_ gl 57 #[.int .i64 kr, .int .i64 kt, .int .i64 kn]) ∧ (Below wc.heap.size wc W_))) (by kernel_rfl) ?_ (fun hHeld => ?_)
      · exact ⟨(H0.out _ (HXC.out _ HD.out)).draw, (H1.out _ (HXC.out _ HD.out)).draw, (HGC.out _ HD.out).draw, below_dr11 HD.out⟩
      refine wpAnyH_take (i := 0) (oi := ⟨some 87, _, _, _, _, _⟩) (v := ?_) rfl (by kernel_rfl) (by kernel_rfl) (by kernel_rfl) (fun _ _ _ h => h) (Or.inl ⟨by rfl, ?_⟩) (by assumption) ?_
      rotate_left
      · intro w_ hSw; (try dsimp only at hSw); go_simp <;> with_reducible rfl
      simp only [Act.put, List.setIfInBounds_toArray, List.set_cons_zero, List.set_cons_succ]
      refine wpAnyH_take (i := 1) (oi := ⟨some 88, _, _, _, _, _⟩) (v := ?_) rfl (by kernel_rfl) (by kernel_rfl) (by kernel_rfl) (fun _ _ _ h => h) (Or.inl ⟨by rfl, ?_⟩) (by assumption) ?_
      rotate_left
      · intro w_ hSw; (try dsimp only at hSw); obtain ⟨s0, s1, s2, s3⟩ := hSw; (have q_ : w_.cell? ⟨w.heap.size + 1, 0, none⟩ = some (.slice (some ⟨bk, off, none⟩) n c) := s1.cell 0); go_simp <;> with_reducible rfl
      simp only [Act.put, List.setIfInBounds_toArray, List.set_cons_zero, List.set_cons_succ]
      refine wpAnyH_take (i := 2) (oi := ⟨some 89, _, _, _, _, _⟩) (v := ?_) rfl (by kernel_rfl) (by kernel_rfl) (by kernel_rfl) (fun _ _ _ h => h) (Or.inl ⟨by rfl, ?_⟩) (by assumption) ?_
      rotate_left
      · intro w_ hSw; (try dsimp only at hSw); go_simp <;> with_reducible rfl
      simp only [Act.put, List.setIfInBounds_toArray, List.set_cons_zero, List.set_cons_succ]
      refine wpAnyH_take (i := 3) (oi := ⟨some 90, _, _, _, _, _⟩) (v := ?_) rfl (by kernel_rfl) (by kernel_rfl) (by kernel_rfl) (fun _ _ _ h => h) (Or.inl ⟨by rfl, ?_⟩) (by assumption) ?_
      rotate_left
      · intro w_ hSw; (try dsimp only at hSw); go_simp <;> with_reducible rfl
      simp only [Act.put, List.setIfInBounds_toArray, List.set_cons_zero, List.set_cons_succ]
      refine wpAnyH_take (i := 4) (oi := ⟨some 91, _, _, _, _, _⟩) (v := ?_) rfl (by kernel_rfl) (by kernel_rfl) (by kernel_rfl) (fun _ _ _ h => h) (Or.inl ⟨by rfl, ?_⟩) (by assumption) ?_
      rotate_left
      · intro w_ hSw; (try dsimp only at hSw); go_simp <;> with_reducible rfl
      simp only [Act.put, List.setIfInBounds_toArray, List.set_cons_zero, List.set_cons_succ]
      refine wpAnyH_take (i := 5) (oi := ⟨some 92, _, _, _, _, _⟩) (v := ?_) rfl (by kernel_rfl) (by kernel_rfl) (by kernel_rfl) (fun _ _ _ h => h) (Or.inl ⟨by rfl, ?_⟩) (by assumption) ?_
      rotate_left
      · intro w_ hSw; (try dsimp only at hSw); obtain ⟨s0, s1, s2, s3⟩ := hSw; (have q_ : w_.cell? ⟨gl, 0, none⟩ = some (.int .i64 kr) := s2.cell 0); go_simp <;> with_reducible rfl
      simp only [Act.put, List.setIfInBounds_toArray, List.set_cons_zero, List.set_cons_succ]
      refine wpAnyH_ready (rs := [6]) (by kernel_rfl) (by simp) ?_
      refine AllReadyH.cons (o := ⟨some 93, _, _, _, _, _⟩) rfl (fun K hK => ?_) AllReadyH.nil
      go_simp
      obtain ⟨s0, s1, s2, s3⟩ := hHeld
      refine (rlthere_any (l.take i) kr _ i c _ ((HS.out _ (HBA.out _ (HXC.out _ s3))).take16 (fun _ => rfl) (by have := HIN.out; omega)) (by have h1_ := HIN.out; have h2_ := HN24.out; omega)).mono ?_
      rw [HTH.out]
      rintro e_ v1 ⟨rfl, rfl⟩
      go_wp2_with fail
      refine hK.out _ _ ?_ (fun hHeld => ?_)
      · exact ⟨s0, s1, s2, s3⟩
      clear hK K s0 s1 s2 s3
      try simp only [Act.put, List.setIfInBounds_toArray, List.set_cons_zero, List.set_cons_succ]
      refine wpAnyH_take (i := 7) (oi := ⟨some 10, _, _, _, _, _⟩) (v := ?_) rfl (by kernel_rfl) (by kernel_rfl) (by kernel_rfl) (fun _ _ _ h => h) (Or.inl ⟨by rfl, ?_⟩) (by assumption) ?_
      rotate_left
      · intro w_ hSw; (try dsimp only at hSw); go_simp <;> with_reducible rfl
      simp only [Act.put, List.setIfInBounds_toArray, List.set_cons_zero, List.set_cons_succ]
      refine wpAnyH_done (by kernel_rfl) ?_ _
      have HH := Lib.hid hHeld
      clear hHeld
      go_upto_region 12 with fail
      refine wp_region_held_drew (S := (fun W_ => (Has W_ (w.heap.size) 27 (tpC t a)) ∧ (Has W_ (w.heap.size + 1) 30 #[.slice (some ⟨bk, off, none⟩) n c, .int .i64 next]) ∧ (Has W_ gl 57 #[.int .i64 kr, .int .i64 kt, .int .i64 kn]) ∧ (Below wc.heap.size wc W_))) (by kernel_rfl) ?_ (fun hHeld => ?_)
      · exact ⟨HH.out.1.draw, HH.out.2.1.draw, HH.out.2.2.1.draw, below_dr11 HH.out.2.2.2⟩
      refine wpAnyH_take (i := 0) (oi := ⟨some 94, _, _, _, _, _⟩) (v := .agg (tpC t a)) rfl (by kernel_rfl) (by kernel_rfl) (by kernel_rfl) (fun _ _ _ h => h) (yields_load_row11 27 _ rfl (w.heap.size) rfl 27 (tpC t a) _ (fun _ ⟨h_, _, _, _⟩ => h_) Tryz.underlying27 rfl (by kernel_rfl) (by rfl)) (by assumption) ?_
      simp only [Act.put, List.setIfInBounds_toArray, List.set_cons_zero, List.set_cons_succ]
      refine wpAnyH_take (i := 1) (oi := ⟨some 95, _, _, _, _, _⟩) (v := ?_) rfl (by kernel_rfl) (by kernel_rfl) (by kernel_rfl) (fun _ _ _ h => h) (Or.inl ⟨by rfl, ?_⟩) (by assumption) ?_
      rotate_left
      · intro w_ hSw; (try dsimp only at hSw); go_simp <;> with_reducible rfl
      simp only [Act.put, List.setIfInBounds_toArray, List.set_cons_zero, List.set_cons_succ]
      refine wpAnyH_take (i := 2) (oi := ⟨some 96, _, _, _, _, _⟩) (v := ?_) rfl (by kernel_rfl) (by kernel_rfl) (by kernel_rfl) (fun _ _ _ h => h) (Or.inl ⟨by rfl, ?_⟩) (by assumption) ?_
      rotate_left
      · intro w_ hSw; (try dsimp only at hSw); obtain ⟨s0, s1, s2, s3⟩ := hSw; (have q_ : w_.cell? ⟨w.heap.size + 1, 0, none⟩ = some (.slice (some ⟨bk, off, none⟩) n c) := s1.cell 0); go_simp <;> with_reducible rfl
      simp only [Act.put, List.setIfInBounds_toArray, List.set_cons_zero, List.set_cons_succ]
      refine wpAnyH_take (i := 3) (oi := ⟨some 97, _, _, _, _, _⟩) (v := ?_) rfl (by kernel_rfl) (by kernel_rfl) (by kernel_rfl) (fun _ _ _ h => h) (Or.inl ⟨by rfl, ?_⟩) (by assumption) ?_
      rotate_left
      · intro w_ hSw; (try dsimp only at hSw); go_simp <;> with_reducible rfl
      simp only [Act.put, List.setIfInBounds_toArray, List.set_cons_zero, List.set_cons_succ]
      refine wpAnyH_take (i := 4) (oi := ⟨some 98, _, _, _, _, _⟩) (v := ?_) rfl (by kernel_rfl) (by kernel_rfl) (by kernel_rfl) (fun _ _ _ h => h) (Or.inl ⟨by rfl, ?_⟩) (by assumption) ?_
      rotate_left
      · intro w_ hSw; (try dsimp only at hSw); go_simp <;> with_reducible rfl
      simp only [Act.put, List.setIfInBounds_toArray, List.set_cons_zero, List.set_cons_succ]
      refine wpAnyH_take (i := 5) (oi := ⟨some 99, _, _, _, _, _⟩) (v := ?_) rfl (by kernel_rfl) (by kernel_rfl) (by kernel_rfl) (fun _ _ _ h => h) (Or.inl ⟨by rfl, ?_⟩) (by assumption) ?_
      rotate_left
      · intro w_ hSw; (try dsimp only at hSw); go_simp <;> with_reducible rfl
      simp only [Act.put, List.setIfInBounds_toArray, List.set_cons_zero, List.set_cons_succ]
      refine wpAnyH_take (i := 6) (oi := ⟨some 100, _, _, _, _, _⟩) (v := ?_) rfl (by kernel_rfl) (by kernel_rfl) (by kernel_rfl) (fun _ _ _ h => h) (Or.inl ⟨by rfl, ?_⟩) (by assumption) ?_
      rotate_left
      · intro w_ hSw; (try dsimp only at hSw); obtain ⟨s0, s1, s2, s3⟩ := hSw; (have q_ : w_.cell? ⟨gl, 0, none⟩ = some (.int .i64 kr) := s2.cell 0); go_simp <;> with_reducible rfl
      simp only [Act.put, List.setIfInBounds_toArray, List.set_cons_zero, List.set_cons_succ]
      refine wpAnyH_take (i := 7) (oi := ⟨some 101, _, _, _, _, _⟩) (v := ?_) rfl (by kernel_rfl) (by kernel_rfl) (by kernel_rfl) (fun _ _ _ h => h) (Or.inl ⟨by rfl, ?_⟩) (by assumption) ?_
      rotate_left
      · intro w_ hSw; (try dsimp only at hSw); go_simp <;> with_reducible rfl
      simp only [Act.put, List.setIfInBounds_toArray, List.set_cons_zero, List.set_cons_succ]
      refine wpAnyH_take (i := 8) (oi := ⟨some 102, _, _, _, _, _⟩) (v := ?_) rfl (by kernel_rfl) (by kernel_rfl) (by kernel_rfl) (fun _ _ _ h => h) (Or.inl ⟨by rfl, ?_⟩) (by assumption) ?_
      rotate_left
      · intro w_ hSw; (try dsimp only at hSw); obtain ⟨s0, s1, s2, s3⟩ := hSw; (have q_ : w_.cell? ⟨gl, 1, none⟩ = some (.int .i64 kt) := s2.cell 1); go_simp <;> with_reducible rfl
      simp only [Act.put, List.setIfInBounds_toArray, List.set_cons_zero, List.set_cons_succ]
      refine wpAnyH_ready (rs := [9]) (by kernel_rfl) (by simp) ?_
      refine AllReadyH.cons (o := ⟨some 103, _, _, _, _, _⟩) rfl (fun K hK => ?_) AllReadyH.nil
      go_simp
      obtain ⟨s0, s1, s2, s3⟩ := hHeld
      refine (rlmet_any t a (l.take i) kr kt _ i c _ (HT.out _ (HBA.out _ (HXC.out _ s3))) HLT.out ((HS.out _ (HBA.out _ (HXC.out _ s3))).take16 (fun _ => rfl) (by have := HIN.out; omega)) (by have h1_ := HIN.out; have h2_ := HN24.out; omega)).mono ?_
      rw [HME.out]
      rintro e_ v2 ⟨rfl, hb2⟩
      go_wp2_with fail
      refine hK.out _ _ ?_ (fun hHeld => ?_)
      · exact ⟨s0.under hb2 s0.lt, s1.under hb2 s1.lt, s2.under hb2 s2.lt, s3.trans (hb2.mono s3.size)⟩
      clear hK K s0 s1 s2 s3
      try simp only [Act.put, List.setIfInBounds_toArray, List.set_cons_zero, List.set_cons_succ]
      refine wpAnyH_take (i := 10) (oi := ⟨some 11, _, _, _, _, _⟩) (v := ?_) rfl (by kernel_rfl) (by kernel_rfl) (by kernel_rfl) (fun _ _ _ h => h) (Or.inl ⟨by rfl, ?_⟩) (by assumption) ?_
      rotate_left
      · intro w_ hSw; (try dsimp only at hSw); go_simp <;> with_reducible rfl
      simp only [Act.put, List.setIfInBounds_toArray, List.set_cons_zero, List.set_cons_succ]
      refine wpAnyH_done (by kernel_rfl) ?_ _
      have HE := Lib.hid hHeld.2.2.2
      clear hHeld HH HD y8 y9
      cases th with
      | true =>
        have HF : Hid (R = false) := Lib.hid (by rw [← HOK2.out]; rfl)
        go_wp2
        go_ret
        exact ⟨by rw [HF.out]; rfl, HBA.out _ (HXC.out _ HE.out)⟩
      | false =>
        cases me with
        | true =>
          have HF : Hid (R = false) := Lib.hid (by rw [← HOK2.out]; rfl)
          go_wp2
          go_ret
          exact ⟨by rw [HF.out]; rfl, HBA.out _ (HXC.out _ HE.out)⟩
        | false =>
          go_wp2
          go_roundg (k1 - 1)
          case measure => have := HIN.out; omega
          case rel => exact ⟨i + 1, by have := HIN.out; omega, by have := HIN.out; omega, by rw [IntWalk.wrap64_in _ (by have h1_ := HIN.out; have h2_ := HN24.out; omega)]; go_num, Lib.hid (by rw [← HOK2.out]; simp), Lib.hid (HWC.out _ HE.out)⟩
    obtain ⟨p, hp⟩ : ∃ p, l[i - 1]? = some p := ⟨_, List.getElem?_eq_getElem (by have h1_ := HL.out; have h2_ := HIN.out; omega)⟩
    have HLS := Lib.hid (show lastB (l.take i) kn = decide (p.no < kn) from by have h_ := last_take16 hp kn; rw [show i - 1 + 1 = i by omega] at h_; exact h_)
    have d3 : wc.cell? ⟨bk, off + (i - 1) * 3 + 2, none⟩ = some (.int .i64 p.no) := by obtain ⟨b_, o_, e_, hc_⟩ := (HS.out w (Below.refl _ _)).locks hp; injection e_ with e_; injection e_ with e1_ e2_ _; subst e1_ e2_; exact (hc_ wc (HBA.out _ (HXC.out wc (Below.refl _ _)))).2.2
    have y4 : decide ((0 : Int) < (i : Int)) = true := by simp; omega
    have y5 : decide (0 < i) = true := by simp; omega
    have y6 : 0 < i := by omega
    have hw1 : IntKind.i64.wrap ((i : Int) - 1) = (i : Int) - 1 := by rw [IntKind.wrap_i64]; have h1_ := HIN.out; have h2_ := HN24.out; omega
    have hw2 : ((i : Int) - 1).toNat = i - 1 := by omega
    have u1 : (0 : Int) ≤ (i : Int) - 1 := by omega
    have u2 : (i : Int) - 1 < n := by have := HIN.out; omega
    have u3 : (1 : Int) ≤ (i : Int) := by omega
    obtain ⟨pn, hpn⟩ : ∃ z, p.no = z := ⟨_, rfl⟩
    rw [hpn] at d3 HLS
    clear hp hpn
    by_cases y7 : kn ≤ pn
    · have y7' : decide (kn ≤ pn) = true := decide_eq_true y7
      have HF : Hid (R = false) := Lib.hid (by rw [← HOK.out false (by rw [HLS.out]; exact decide_eq_false (by omega))]; rfl)
      go_quiet (fail)
      go_wp2
      go_ret
      exact ⟨by rw [HF.out]; rfl, HBA.out _ (HXC.out _ (below_draws (Below.refl _ _) _))⟩
    have y7' : decide (kn ≤ pn) = false := decide_eq_false y7
    have HOK2 := Lib.hid (HOK.out true (by rw [HLS.out]; exact decide_eq_true (by omega)))
    rw [Bool.true_and] at HOK2
    clear HOK
    go_quiet (fail)
    obtain ⟨wd, hwd⟩ : ∃ wd, wc.drewN nq = wd := ⟨_, rfl⟩
    rw [hwd]
    have HD : Hid (Below wc.heap.size wc wd) := Lib.hid (by rw [← hwd]; exact below_draws (Below.refl _ _) _)
    clear hwd e0 e1 e2 f0 f1 y1 y1' y2 y2'
    clear y3 y4 y5 y6 y7 y7' hw1 hw2 u1 u2 u3 d3
    obtain ⟨th, hth⟩ : ∃ b, thereB (l.take i) kr = b := ⟨_, rfl⟩
    obtain ⟨me, hme⟩ : ∃ b, metB t (l.take i) kr kt = b := ⟨_, rfl⟩
    rw [hth, hme] at HOK2
    have HTH := Lib.hid hth; have HME := Lib.hid hme
    clear hth hme
    have y8 : (i : Int) ≤ c := by have h1_ := HIN.out; have h2_ := HCC.out; omega
    have y9 : ¬ (c : Int) < i := by omega
    go_upto_region 11 with fail
    refine wp_region_held_drew (S := (fun W_ => (Has W_ (w.heap.size) 27 (tpC t a)) ∧ (Has W_ (w.heap.size + 1) 30 #[.slice (some ⟨bk, off, none⟩) n c, .int .i64 next]) ∧ (Has W_ gl 57 #[.int .i64 kr, .int .i64 kt, .int .i64 kn]) ∧ (Below wc.heap.size wc W_))) (by kernel_rfl) ?_ (fun hHeld => ?_)
    · exact ⟨(H0.out _ (HXC.out _ HD.out)).draw, (H1.out _ (HXC.out _ HD.out)).draw, (HGC.out _ HD.out).draw, below_dr11 HD.out⟩
    refine wpAnyH_take (i := 0) (oi := ⟨some 87, _, _, _, _, _⟩) (v := ?_) rfl (by kernel_rfl) (by kernel_rfl) (by kernel_rfl) (fun _ _ _ h => h) (Or.inl ⟨by rfl, ?_⟩) (by assumption) ?_
    rotate_left
    · intro w_ hSw; (try dsimp only at hSw); go_simp <;> with_reducible rfl
    simp only [Act.put, List.setIfInBounds_toArray, List.set_cons_zero, List.set_cons_succ]
    refine wpAnyH_take (i := 1) (oi := ⟨some 88, _, _, _, _, _⟩) (v := ?_) rfl (by kernel_rfl) (by kernel_rfl) (by kernel_rfl) (fun _ _ _ h => h) (Or.inl ⟨by rfl, ?_⟩) (by assumption) ?_
    rotate_left
    · intro w_ hSw; (try dsimp only at hSw); obtain ⟨s0, s1, s2, s3⟩ := hSw; (have q_ : w_.cell? ⟨w.heap.size + 1, 0, none⟩ = some (.slice (some ⟨bk, off, none⟩) n c) := s1.cell 0); go_simp <;> with_reducible rfl
    simp only [Act.put, List.setIfInBounds_toArray, List.set_cons_zero, List.set_cons_succ]
    refine wpAnyH_take (i := 2) (oi := ⟨some 89, _, _, _, _, _⟩) (v := ?_) rfl (by kernel_rfl) (by kernel_rfl) (by kernel_rfl) (fun _ _ _ h => h) (Or.inl ⟨by rfl, ?_⟩) (by assumption) ?_
    rotate_left
    · intro w_ hSw; (try dsimp only at hSw); go_simp <;> with_reducible rfl
    simp only [Act.put, List.setIfInBounds_toArray, List.set_cons_zero, List.set_cons_succ]
    refine wpAnyH_take (i := 3) (oi := ⟨some 90, _, _, _, _, _⟩) (v := ?_) rfl (by kernel_rfl) (by kernel_rfl) (by kernel_rfl) (fun _ _ _ h => h) (Or.inl ⟨by rfl, ?_⟩) (by assumption) ?_
    rotate_left
    · intro w_ hSw; (try dsimp only at hSw); go_simp <;> with_reducible rfl
    simp only [Act.put, List.setIfInBounds_toArray, List.set_cons_zero, List.set_cons_succ]
    refine wpAnyH_take (i := 4) (oi := ⟨some 91, _, _, _, _, _⟩) (v := ?_) rfl (by kernel_rfl) (by kernel_rfl) (by kernel_rfl) (fun _ _ _ h => h) (Or.inl ⟨by rfl, ?_⟩) (by assumption) ?_
    rotate_left
    · intro w_ hSw; (try dsimp only at hSw); go_simp <;> with_reducible rfl
    simp only [Act.put, List.setIfInBounds_toArray, List.set_cons_zero, List.set_cons_succ]
    refine wpAnyH_take (i := 5) (oi := ⟨some 92, _, _, _, _, _⟩) (v := ?_) rfl (by kernel_rfl) (by kernel_rfl) (by kernel_rfl) (fun _ _ _ h => h) (Or.inl ⟨by rfl, ?_⟩) (by assumption) ?_
    rotate_left
    · intro w_ hSw; (try dsimp only at hSw); obtain ⟨s0, s1, s2, s3⟩ := hSw; (have q_ : w_.cell? ⟨gl, 0, none⟩ = some (.int .i64 kr) := s2.cell 0); go_simp <;> with_reducible rfl
    simp only [Act.put, List.setIfInBounds_toArray, List.set_cons_zero, List.set_cons_succ]
    refine wpAnyH_ready (rs := [6]) (by kernel_rfl) (by simp) ?_
    refine AllReadyH.cons (o := ⟨some 93, _, _, _, _, _⟩) rfl (fun K hK => ?_) AllReadyH.nil
    go_simp
    obtain ⟨s0, s1, s2, s3⟩ := hHeld
    refine (rlthere_any (l.take i) kr _ i c _ ((HS.out _ (HBA.out _ (HXC.out _ s3))).take16 (fun _ => rfl) (by have := HIN.out; omega)) (by have h1_ := HIN.out; have h2_ := HN24.out; omega)).mono ?_
    rw [HTH.out]
    rintro e_ v1 ⟨rfl, rfl⟩
    go_wp2_with fail
    refine hK.out _ _ ?_ (fun hHeld => ?_)
    · exact ⟨s0, s1, s2, s3⟩
    clear hK K s0 s1 s2 s3
    try simp only [Act.put, List.setIfInBounds_toArray, List.set_cons_zero, List.set_cons_succ]
    refine wpAnyH_take (i := 7) (oi := ⟨some 10, _, _, _, _, _⟩) (v := ?_) rfl (by kernel_rfl) (by kernel_rfl) (by kernel_rfl) (fun _ _ _ h => h) (Or.inl ⟨by rfl, ?_⟩) (by assumption) ?_
    rotate_left
    · intro w_ hSw; (try dsimp only at hSw); go_simp <;> with_reducible rfl
    simp only [Act.put, List.setIfInBounds_toArray, List.set_cons_zero, List.set_cons_succ]
    refine wpAnyH_done (by kernel_rfl) ?_ _
    have HH := Lib.hid hHeld
    clear hHeld
    go_upto_region 12 with fail
    refine wp_region_held_drew (S := (fun W_ => (Has W_ (w.heap.size) 27 (tpC t a)) ∧ (Has W_ (w.heap.size + 1) 30 #[.slice (some ⟨bk, off, none⟩) n c, .int .i64 next]) ∧ (Has W_ gl 57 #[.int .i64 kr, .int .i64 kt, .int .i64 kn]) ∧ (Below wc.heap.size wc W_))) (by kernel_rfl) ?_ (fun hHeld => ?_)
    · exact ⟨HH.out.1.draw, HH.out.2.1.draw, HH.out.2.2.1.draw, below_dr11 HH.out.2.2.2⟩
    refine wpAnyH_take (i := 0) (oi := ⟨some 94, _, _, _, _, _⟩) (v := .agg (tpC t a)) rfl (by kernel_rfl) (by kernel_rfl) (by kernel_rfl) (fun _ _ _ h => h) (yields_load_row11 27 _ rfl (w.heap.size) rfl 27 (tpC t a) _ (fun _ ⟨h_, _, _, _⟩ => h_) Tryz.underlying27 rfl (by kernel_rfl) (by rfl)) (by assumption) ?_
    simp only [Act.put, List.setIfInBounds_toArray, List.set_cons_zero, List.set_cons_succ]
    refine wpAnyH_take (i := 1) (oi := ⟨some 95, _, _, _, _, _⟩) (v := ?_) rfl (by kernel_rfl) (by kernel_rfl) (by kernel_rfl) (fun _ _ _ h => h) (Or.inl ⟨by rfl, ?_⟩) (by assumption) ?_
    rotate_left
    · intro w_ hSw; (try dsimp only at hSw); go_simp <;> with_reducible rfl
    simp only [Act.put, List.setIfInBounds_toArray, List.set_cons_zero, List.set_cons_succ]
    refine wpAnyH_take (i := 2) (oi := ⟨some 96, _, _, _, _, _⟩) (v := ?_) rfl (by kernel_rfl) (by kernel_rfl) (by kernel_rfl) (fun _ _ _ h => h) (Or.inl ⟨by rfl, ?_⟩) (by assumption) ?_
    rotate_left
    · intro w_ hSw; (try dsimp only at hSw); obtain ⟨s0, s1, s2, s3⟩ := hSw; (have q_ : w_.cell? ⟨w.heap.size + 1, 0, none⟩ = some (.slice (some ⟨bk, off, none⟩) n c) := s1.cell 0); go_simp <;> with_reducible rfl
    simp only [Act.put, List.setIfInBounds_toArray, List.set_cons_zero, List.set_cons_succ]
    refine wpAnyH_take (i := 3) (oi := ⟨some 97, _, _, _, _, _⟩) (v := ?_) rfl (by kernel_rfl) (by kernel_rfl) (by kernel_rfl) (fun _ _ _ h => h) (Or.inl ⟨by rfl, ?_⟩) (by assumption) ?_
    rotate_left
    · intro w_ hSw; (try dsimp only at hSw); go_simp <;> with_reducible rfl
    simp only [Act.put, List.setIfInBounds_toArray, List.set_cons_zero, List.set_cons_succ]
    refine wpAnyH_take (i := 4) (oi := ⟨some 98, _, _, _, _, _⟩) (v := ?_) rfl (by kernel_rfl) (by kernel_rfl) (by kernel_rfl) (fun _ _ _ h => h) (Or.inl ⟨by rfl, ?_⟩) (by assumption) ?_
    rotate_left
    · intro w_ hSw; (try dsimp only at hSw); go_simp <;> with_reducible rfl
    simp only [Act.put, List.setIfInBounds_toArray, List.set_cons_zero, List.set_cons_succ]
    refine wpAnyH_take (i := 5) (oi := ⟨some 99, _, _, _, _, _⟩) (v := ?_) rfl (by kernel_rfl) (by kernel_rfl) (by kernel_rfl) (fun _ _ _ h => h) (Or.inl ⟨by rfl, ?_⟩) (by assumption) ?_
    rotate_left
    · intro w_ hSw; (try dsimp only at hSw); go_simp <;> with_reducible rfl
    simp only [Act.put, List.setIfInBounds_toArray, List.set_cons_zero, List.set_cons_succ]
    refine wpAnyH_take (i := 6) (oi := ⟨some 100, _, _, _, _, _⟩) (v := ?_) rfl (by kernel_rfl) (by kernel_rfl) (by kernel_rfl) (fun _ _ _ h => h) (Or.inl ⟨by rfl, ?_⟩) (by assumption) ?_
    rotate_left
    · intro w_ hSw; (try dsimp only at hSw); obtain ⟨s0, s1, s2, s3⟩ := hSw; (have q_ : w_.cell? ⟨gl, 0, none⟩ = some (.int .i64 kr) := s2.cell 0); go_simp <;> with_reducible rfl
    simp only [Act.put, List.setIfInBounds_toArray, List.set_cons_zero, List.set_cons_succ]
    refine wpAnyH_take (i := 7) (oi := ⟨some 101, _, _, _, _, _⟩) (v := ?_) rfl (by kernel_rfl) (by kernel_rfl) (by kernel_rfl) (fun _ _ _ h => h) (Or.inl ⟨by rfl, ?_⟩) (by assumption) ?_
    rotate_left
    · intro w_ hSw; (try dsimp only at hSw); go_simp <;> with_reducible rfl
    simp only [Act.put, List.setIfInBounds_toArray, List.set_cons_zero, List.set_cons_succ]
    refine wpAnyH_take (i := 8) (oi := ⟨some 102, _, _, _, _, _⟩) (v := ?_) rfl (by kernel_rfl) (by kernel_rfl) (by kernel_rfl) (fun _ _ _ h => h) (Or.inl ⟨by rfl, ?_⟩) (by assumption) ?_
    rotate_left
    · intro w_ hSw; (try dsimp only at hSw); obtain ⟨s0, s1, s2, s3⟩ := hSw; (have q_ : w_.cell? ⟨gl, 1, none⟩ = some (.int .i64 kt) := s2.cell 1); go_simp <;> with_reducible rfl
    simp only [Act.put, List.setIfInBounds_toArray, List.set_cons_zero, List.set_cons_succ]
    refine wpAnyH_ready (rs := [9]) (by kernel_rfl) (by simp) ?_
    refine AllReadyH.cons (o := ⟨some 103, _, _, _, _, _⟩) rfl (fun K hK => ?_) AllReadyH.nil
    go_simp
    obtain ⟨s0, s1, s2, s3⟩ := hHeld
    refine (rlmet_any t a (l.take i) kr kt _ i c _ (HT.out _ (HBA.out _ (HXC.out _ s3))) HLT.out ((HS.out _ (HBA.out _ (HXC.out _ s3))).take16 (fun _ => rfl) (by have := HIN.out; omega)) (by have h1_ := HIN.out; have h2_ := HN24.out; omega)).mono ?_
    rw [HME.out]
    rintro e_ v2 ⟨rfl, hb2⟩
    go_wp2_with fail
    refine hK.out _ _ ?_ (fun hHeld => ?_)
    · exact ⟨s0.under hb2 s0.lt, s1.under hb2 s1.lt, s2.under hb2 s2.lt, s3.trans (hb2.mono s3.size)⟩
    clear hK K s0 s1 s2 s3
    try simp only [Act.put, List.setIfInBounds_toArray, List.set_cons_zero, List.set_cons_succ]
    refine wpAnyH_take (i := 10) (oi := ⟨some 11, _, _, _, _, _⟩) (v := ?_) rfl (by kernel_rfl) (by kernel_rfl) (by kernel_rfl) (fun _ _ _ h => h) (Or.inl ⟨by rfl, ?_⟩) (by assumption) ?_
    rotate_left
    · intro w_ hSw; (try dsimp only at hSw); go_simp <;> with_reducible rfl
    simp only [Act.put, List.setIfInBounds_toArray, List.set_cons_zero, List.set_cons_succ]
    refine wpAnyH_done (by kernel_rfl) ?_ _
    have HE := Lib.hid hHeld.2.2.2
    clear hHeld HH HD y8 y9
    cases th with
    | true =>
      have HF : Hid (R = false) := Lib.hid (by rw [← HOK2.out]; rfl)
      go_wp2
      go_ret
      exact ⟨by rw [HF.out]; rfl, HBA.out _ (HXC.out _ HE.out)⟩
    | false =>
      cases me with
      | true =>
        have HF : Hid (R = false) := Lib.hid (by rw [← HOK2.out]; rfl)
        go_wp2
        go_ret
        exact ⟨by rw [HF.out]; rfl, HBA.out _ (HXC.out _ HE.out)⟩
      | false =>
        go_wp2
        go_roundg (k1 - 1)
        case measure => have := HIN.out; omega
        case rel => exact ⟨i + 1, by have := HIN.out; omega, by have := HIN.out; omega, by rw [IntWalk.wrap64_in _ (by have h1_ := HIN.out; have h2_ := HN24.out; omega)]; go_num, Lib.hid (by rw [← HOK2.out]; simp), Lib.hid (HWC.out _ HE.out)⟩

end Go.Proofs.YteioefgckigbcaaGreat

/-
  linesideref16, by contract: Set, Free.
-/
namespace Go.Proofs.YteioefgckigbcaaGreat

open Go.RowKit

open Go.Great

theorem results_rtt16 {P : Program} {fn : Func} {p u v : Tmp} {ty : TypeId} (h : fn.results = #[.cell p ty, .tmp u, .tmp v]) (tmps : Array Value) (w : World) (g : Nat) (t : TypeId) (cs : Array Value) (d : TypeDesc)
    (hp : tmps.getD p undef = .pointer (some ⟨g, 0, none⟩)) (hg : w.heap[g]? = some (.cells cs t (0, 0)))
    (hu : P.underlying ty = some d) (hd : (match d with | .struct _ | .array _ _ => true | _ => false) = true) (hi : (P.info? ty).map (·.size) = some cs.size) :
    (results fn tmps).run P w = .ok (.tuple #[.agg cs, tmps.getD u undef, tmps.getD v undef]) w := by
  have e : (results fn tmps).run P w = ((asAddr (tmps.getD p undef)).run P w).andThen fun a w₁ => ((loadVar ty a).run P w₁).andThen fun y w₂ => .ok (.tuple #[y, tmps.getD u undef, tmps.getD v undef]) w₂ := by
    simp only [results, h]
    simp [Sem.run_bind, Result.andThen]
  rw [e, hp]
  simp [asAddr, run_loadVar_row w g t ty cs (0, 0) d hg hu hd hi]

set_option maxRecDepth 100000 in
set_option maxHeartbeats 20000000 in
theorem rlset_any (t : Tp3) (a : TpA) (l : List Lc3) (next route train : Int) (A : Option Addr) (n c : Nat) (w : World) (ht : TopR w t a) (hl : lightT t = true) (hcj : t.joints.length ≤ a.cj) (hs : SlO lcC 3 w A n c l) (hc : n ≤ c) (hn : n ≤ 1000) :
    Calls Tryz.prog 8 #[.agg (tpC t a), .agg #[.slice A n c, .int .i64 next], .int .i64 route, .int .i64 train] w fun r w' => ∃ X k x, r = .returned (.tuple #[.agg #[.slice X k x, .int .i64 (setE t ⟨l, next⟩ route train).1.next], .int .i64 (setE t ⟨l, next⟩ route train).2.1, .int .i64 (setE t ⟨l, next⟩ route train).2.2]) ∧ SlO lcC 3 w' X k x (setE t ⟨l, next⟩ route train).1.locks ∧ k ≤ x ∧ Below w.heap.size w w' := by
  obtain ⟨wa, hwa⟩ : ∃ wa, ((w.alloc (.cells (tpC t a) 27)).alloc (.cells #[.slice A n c, .int .i64 next] 30)).alloc (.cells #[.slice none 0 0, .int .i64 0] 30) = wa := ⟨_, rfl⟩
  have hbwa : Below w.heap.size w wa := by rw [← hwa]; exact (((Below.refl _ _).alloc (Nat.le_refl _) _).alloc (by simp) _).alloc (by simp; omega) _
  have h0 : Has wa (w.heap.size) 27 (tpC t a) := by rw [← hwa]; exact (((Has.made _ _ _).beside _).beside _)
  have h1 : Has wa (w.heap.size + 1) 30 #[.slice A n c, .int .i64 next] := by rw [← hwa]; exact ((has_at11 (by simp)).beside _)
  have h2 : Has wa (w.heap.size + 1 + 1) 30 #[.slice none 0 0, .int .i64 0] := by rw [← hwa]; exact (has_at11 (by simp))
  have HWA := Lib.hid hwa; have HBWA := Lib.hid hbwa
  have HT := Lib.hid (fun W (hW : Below w.heap.size w W) => ht.under hW)
  have H0 := Lib.hid (fun W (hW : Below wa.heap.size wa W) => h0.under hW h0.lt)
  have H1 := Lib.hid (fun W (hW : Below wa.heap.size wa W) => h1.under hW h1.lt)
  have H2 := Lib.hid (fun W (hW : Below wa.heap.size wa W) => h2.under hW h2.lt)
  have HBA := Lib.hid (fun W (hW : Below wa.heap.size wa W) => hbwa.trans (hW.mono hbwa.size))
  have HLT := Lib.hid hl
  have HS := Lib.hid (fun W (hW : Below w.heap.size w W) => hs.under hW)
  have HL := Lib.hid hs.1
  have HCJ := Lib.hid hcj
  have HCC := Lib.hid hc
  have HNB := Lib.hid hn
  have HNN := Lib.hid (light_nums13 hl)
  obtain ⟨E, hE⟩ : ∃ E, setE t ⟨l, next⟩ route train = E := ⟨_, rfl⟩
  have HE := Lib.hid hE
  rw [hE]
  obtain ⟨⟨EL, EN⟩, EO, EE⟩ := E
  dsimp only
  clear hwa hbwa h0 h1 h2 ht hl hs hcj hc hn hE
  go_enter Tryz.func8, Tryz.ntmps8
  go_upto_region 1 with fail
  rw [HWA.out]
  clear HWA
  go_wp2_with (first | (with_reducible refine wpList_load_row (o := ⟨some 16, _, _, _, _, _⟩) rfl 27 _ rfl (w.heap.size) rfl 27 (tpC t a) (0, 0) _ ((H0.out wa (Below.refl _ _))).raw11 Tryz.underlying27 rfl (by kernel_rfl) ?_) | (with_reducible refine wpList_load_row (o := ⟨some 17, _, _, _, _, _⟩) rfl 30 _ rfl (w.heap.size + 1) rfl 30 #[.slice A n c, .int .i64 next] (0, 0) _ ((H1.out wa (Below.refl _ _))).raw11 Tryz.underlying30 rfl (by kernel_rfl) ?_))
  refine (rlmay_any t a l next A n c wa (HT.out _ HBWA.out) HLT.out HCJ.out (HS.out _ HBWA.out) HCC.out HNB.out).mono ?_
  obtain ⟨bm, hbm⟩ : ∃ b, mayB t ⟨l, next⟩ = b := ⟨_, rfl⟩
  rw [hbm]
  rintro e_ w1 ⟨rfl, hb1⟩
  have HB1 := Lib.hid hb1
  have HBM := Lib.hid hbm
  clear hb1 hbm
  go_wp2_with fail
  refine (rltrain_any train w1).mono ?_
  obtain ⟨bt, hbt⟩ : ∃ b, trainB train = b := ⟨_, rfl⟩
  rw [hbt]
  rintro e_ w2 ⟨rfl, rfl⟩
  have HBT := Lib.hid hbt
  clear hbt
  cases bm with
  | false =>
    have HF : Hid (setE t ⟨l, next⟩ route train = (zeroI, 0, 1)) := Lib.hid (by unfold setE; rw [HBM.out, if_pos (by rfl)])
    have hq_ := HE.out.symm.trans HF.out
    unfold zeroI at hq_
    simp only [Prod.mk.injEq, It3.mk.injEq] at hq_
    obtain ⟨⟨rfl, rfl⟩, rfl, rfl⟩ := hq_
    have HZ := Lib.hid (H2.out w1 HB1.out)
    have HR := Lib.hid (has_row11 HZ.out #[.slice none 0 0, .int .i64 0])
    have HBF := Lib.hid (below_row (g := w.heap.size + 1 + 1) (HBA.out w1 HB1.out) (by omega) #[.slice none 0 0, .int .i64 0])
    clear HF HE
    go_wp2_with (with_reducible refine wpList_store_rowTo (o := ⟨none, _, _, _, _, _⟩) rfl 30 _ _ rfl rfl (w.heap.size + 1 + 1) #[.slice none 0 0, .int .i64 0] rfl rfl 30 _ (HZ.out).raw11 (by kernel_rfl) (by kernel_rfl) (by kernel_rfl) ?_)
    refine bodyPost_ret (results_rtt16 rfl _ _ (w.heap.size + 1 + 1) 30 _ _ rfl HR.out Tryz.underlying30 rfl (by kernel_rfl)) rfl ?_
    exact ⟨none, 0, 0, rfl, SlO.nil _ _ _, Nat.le_refl _, HBF.out⟩
  | true =>
  cases bt with
  | false =>
    have HF : Hid (setE t ⟨l, next⟩ route train = (zeroI, 0, 1)) := Lib.hid (by unfold setE; rw [HBM.out, HBT.out, if_pos (by rfl)])
    have hq_ := HE.out.symm.trans HF.out
    unfold zeroI at hq_
    simp only [Prod.mk.injEq, It3.mk.injEq] at hq_
    obtain ⟨⟨rfl, rfl⟩, rfl, rfl⟩ := hq_
    have HZ := Lib.hid (H2.out w1 HB1.out)
    have HR := Lib.hid (has_row11 HZ.out #[.slice none 0 0, .int .i64 0])
    have HBF := Lib.hid (below_row (g := w.heap.size + 1 + 1) (HBA.out w1 HB1.out) (by omega) #[.slice none 0 0, .int .i64 0])
    clear HF HE
    go_wp2_with (with_reducible refine wpList_store_rowTo (o := ⟨none, _, _, _, _, _⟩) rfl 30 _ _ rfl rfl (w.heap.size + 1 + 1) #[.slice none 0 0, .int .i64 0] rfl rfl 30 _ (HZ.out).raw11 (by kernel_rfl) (by kernel_rfl) (by kernel_rfl) ?_)
    refine bodyPost_ret (results_rtt16 rfl _ _ (w.heap.size + 1 + 1) 30 _ _ rfl HR.out Tryz.underlying30 rfl (by kernel_rfl)) rfl ?_
    exact ⟨none, 0, 0, rfl, SlO.nil _ _ _, Nat.le_refl _, HBF.out⟩
  | true =>
  have HM := may_iff.1 HBM.out
  have HE1 := Lib.hid (show setE t ⟨l, next⟩ route train = if (routeF t route).isSome = false then (zeroI, 0, 4) else if thereB l route = true then (zeroI, 0, 5) else if metB t l route train = true then (zeroI, 0, 160) else if l.length = 24 ∨ next = 1099511627776 then (zeroI, 0, 3) else (⟨l ++ [⟨route, train, next⟩], next + 1⟩, next, 0) from by unfold setE; rw [HBM.out, HBT.out, if_neg (by decide)])
  have HMN := Lib.hid (show l.length ≤ 24 ∧ 1 ≤ next ∧ next ≤ 1099511627776 from ⟨HM.few, HM.lo, HM.hi⟩)
  clear HM HBM HBT
  go_upto_region 5 with fail
  go_wp2_with (with_reducible refine wpList_load_row (o := ⟨some 29, _, _, _, _, _⟩) rfl 27 _ rfl (w.heap.size) rfl 27 (tpC t a) (0, 0) _ ((H0.out w1 HB1.out)).raw11 Tryz.underlying27 rfl (by kernel_rfl) ?_)
  refine (rroute_any t a route w1 (HT.out _ (HBA.out _ HB1.out)) (by have := HNN.out.2.2.2.1; omega)).mono ?_
  rintro e_ w2 ⟨v, hv, rfl, hb2⟩
  obtain ⟨PA, pc, rfl, _⟩ := hv
  have HB2 := Lib.hid (HB1.out.trans (hb2.mono HB1.out.size))
  unfold rtA
  obtain ⟨b1, hb1⟩ : ∃ b, (routeF t route).isSome = b := ⟨_, rfl⟩
  rw [hb1]
  rw [hb1] at HE1
  clear hb1 hb2 HB1
  generalize routeR t route = rr
  obtain ⟨ri, rp, rg, rt⟩ := rr
  dsimp only
  generalize rp.length = rn
  go_upto_region 6 with fail
  obtain ⟨wc, hwc⟩ : ∃ wc, w2.alloc (.cells #[.int .i64 ri, .slice PA rn pc, .int .i64 rg, .int .i64 rt] 61) = wc := ⟨_, rfl⟩
  rw [hwc]
  have HBC := Lib.hid (show Below wa.heap.size wa wc from by rw [← hwc]; exact HB2.out.alloc HB2.out.size _)
  clear hwc HB2
  cases b1 with
  | false =>
    have HF : Hid (setE t ⟨l, next⟩ route train = (zeroI, 0, 4)) := Lib.hid (HE1.out.trans (if_pos rfl))
    have hq_ := HE.out.symm.trans HF.out
    unfold zeroI at hq_
    simp only [Prod.mk.injEq, It3.mk.injEq] at hq_
    obtain ⟨⟨rfl, rfl⟩, rfl, rfl⟩ := hq_
    have HZ := Lib.hid (H2.out wc HBC.out)
    have HR := Lib.hid (has_row11 HZ.out #[.slice none 0 0, .int .i64 0])
    have HBF := Lib.hid (below_row (g := w.heap.size + 1 + 1) (HBA.out wc HBC.out) (by omega) #[.slice none 0 0, .int .i64 0])
    clear HF HE
    go_wp2_with (with_reducible refine wpList_store_rowTo (o := ⟨none, _, _, _, _, _⟩) rfl 30 _ _ rfl rfl (w.heap.size + 1 + 1) #[.slice none 0 0, .int .i64 0] rfl rfl 30 _ (HZ.out).raw11 (by kernel_rfl) (by kernel_rfl) (by kernel_rfl) ?_)
    refine bodyPost_ret (results_rtt16 rfl _ _ (w.heap.size + 1 + 1) 30 _ _ rfl HR.out Tryz.underlying30 rfl (by kernel_rfl)) rfl ?_
    exact ⟨none, 0, 0, rfl, SlO.nil _ _ _, Nat.le_refl _, HBF.out⟩
  | true =>
  have HE2 := Lib.hid (HE1.out.trans (if_neg (by decide)))
  clear HE1
  have f0 : wc.cell? ⟨w.heap.size + 1, 0, none⟩ = some (.slice A n c) := (H1.out wc HBC.out).cell 0
  obtain ⟨b2, hb2⟩ : ∃ b, thereB l route = b := ⟨_, rfl⟩
  go_wp2_with fail
  refine (rlthere_any l route A n c wc (HS.out _ (HBA.out _ HBC.out)) HNB.out).mono ?_
  rw [hb2]
  rw [hb2] at HE2
  clear hb2
  rintro e_ w3 ⟨rfl, rfl⟩
  cases b2 with
  | true =>
    have HF : Hid (setE t ⟨l, next⟩ route train = (zeroI, 0, 5)) := Lib.hid (HE2.out.trans (if_pos rfl))
    have hq_ := HE.out.symm.trans HF.out
    unfold zeroI at hq_
    simp only [Prod.mk.injEq, It3.mk.injEq] at hq_
    obtain ⟨⟨rfl, rfl⟩, rfl, rfl⟩ := hq_
    have HZ := Lib.hid (H2.out wc HBC.out)
    have HR := Lib.hid (has_row11 HZ.out #[.slice none 0 0, .int .i64 0])
    have HBF := Lib.hid (below_row (g := w.heap.size + 1 + 1) (HBA.out wc HBC.out) (by omega) #[.slice none 0 0, .int .i64 0])
    clear HF HE
    go_wp2_with (with_reducible refine wpList_store_rowTo (o := ⟨none, _, _, _, _, _⟩) rfl 30 _ _ rfl rfl (w.heap.size + 1 + 1) #[.slice none 0 0, .int .i64 0] rfl rfl 30 _ (HZ.out).raw11 (by kernel_rfl) (by kernel_rfl) (by kernel_rfl) ?_)
    refine bodyPost_ret (results_rtt16 rfl _ _ (w.heap.size + 1 + 1) 30 _ _ rfl HR.out Tryz.underlying30 rfl (by kernel_rfl)) rfl ?_
    exact ⟨none, 0, 0, rfl, SlO.nil _ _ _, Nat.le_refl _, HBF.out⟩
  | false =>
  have HE3 := Lib.hid (HE2.out.trans (if_neg (by decide)))
  clear HE2
  go_upto_region 10 with fail
  go_wp2_with (with_reducible refine wpList_load_row (o := ⟨some 42, _, _, _, _, _⟩) rfl 27 _ rfl (w.heap.size) rfl 27 (tpC t a) (0, 0) _ ((H0.out wc HBC.out)).raw11 Tryz.underlying27 rfl (by kernel_rfl) ?_)
  obtain ⟨b3, hb3⟩ : ∃ b, metB t l route train = b := ⟨_, rfl⟩
  refine (rlmet_any t a l route train A n c wc (HT.out _ (HBA.out _ HBC.out)) HLT.out (HS.out _ (HBA.out _ HBC.out)) HNB.out).mono ?_
  rw [hb3]
  rw [hb3] at HE3
  clear hb3 f0
  rintro e_ wd ⟨rfl, hbd⟩
  have HBD_ := Lib.hid (HBC.out.trans (hbd.mono HBC.out.size))
  clear hbd HBC
  cases b3 with
  | true =>
    have HF : Hid (setE t ⟨l, next⟩ route train = (zeroI, 0, 160)) := Lib.hid (HE3.out.trans (if_pos rfl))
    have hq_ := HE.out.symm.trans HF.out
    unfold zeroI at hq_
    simp only [Prod.mk.injEq, It3.mk.injEq] at hq_
    obtain ⟨⟨rfl, rfl⟩, rfl, rfl⟩ := hq_
    have HZ := Lib.hid (H2.out wd HBD_.out)
    have HR := Lib.hid (has_row11 HZ.out #[.slice none 0 0, .int .i64 0])
    have HBF := Lib.hid (below_row (g := w.heap.size + 1 + 1) (HBA.out wd HBD_.out) (by omega) #[.slice none 0 0, .int .i64 0])
    clear HF HE
    go_wp2_with (with_reducible refine wpList_store_rowTo (o := ⟨none, _, _, _, _, _⟩) rfl 30 _ _ rfl rfl (w.heap.size + 1 + 1) #[.slice none 0 0, .int .i64 0] rfl rfl 30 _ (HZ.out).raw11 (by kernel_rfl) (by kernel_rfl) (by kernel_rfl) ?_)
    refine bodyPost_ret (results_rtt16 rfl _ _ (w.heap.size + 1 + 1) 30 _ _ rfl HR.out Tryz.underlying30 rfl (by kernel_rfl)) rfl ?_
    exact ⟨none, 0, 0, rfl, SlO.nil _ _ _, Nat.le_refl _, HBF.out⟩
  | false =>
  have HE4 := Lib.hid (HE3.out.trans (if_neg (by decide)))
  clear HE3
  have f0 : wd.cell? ⟨w.heap.size + 1, 0, none⟩ = some (.slice A n c) := (H1.out wd HBD_.out).cell 0
  have f1 : wd.cell? ⟨w.heap.size + 1, 1, none⟩ = some (.int .i64 next) := (H1.out wd HBD_.out).cell 1
  by_cases z1 : n = 24
  · have q1 : ((n : Int) == 24) = true := by simp; omega
    have z1' : (n : Int) = 24 := by omega
    have HF : Hid (setE t ⟨l, next⟩ route train = (zeroI, 0, 3)) := Lib.hid (HE4.out.trans (if_pos (.inl (by rw [HL.out]; exact z1))))
    have hq_ := HE.out.symm.trans HF.out
    unfold zeroI at hq_
    simp only [Prod.mk.injEq, It3.mk.injEq] at hq_
    obtain ⟨⟨rfl, rfl⟩, rfl, rfl⟩ := hq_
    have HZ := Lib.hid (H2.out wd HBD_.out)
    have HR := Lib.hid (has_row11 HZ.out #[.slice none 0 0, .int .i64 0])
    have HBF := Lib.hid (below_row (g := w.heap.size + 1 + 1) (HBA.out wd HBD_.out) (by omega) #[.slice none 0 0, .int .i64 0])
    clear HF HE
    go_wp2_with (with_reducible refine wpList_store_rowTo (o := ⟨none, _, _, _, _, _⟩) rfl 30 _ _ rfl rfl (w.heap.size + 1 + 1) #[.slice none 0 0, .int .i64 0] rfl rfl 30 _ (HZ.out).raw11 (by kernel_rfl) (by kernel_rfl) (by kernel_rfl) ?_)
    refine bodyPost_ret (results_rtt16 rfl _ _ (w.heap.size + 1 + 1) 30 _ _ rfl HR.out Tryz.underlying30 rfl (by kernel_rfl)) rfl ?_
    exact ⟨none, 0, 0, rfl, SlO.nil _ _ _, Nat.le_refl _, HBF.out⟩
  have q1 : ((n : Int) == 24) = false := by simp; omega
  have z1' : ¬ (n : Int) = 24 := by omega
  by_cases z2 : next = 1099511627776
  · have q2 : (next == 1099511627776) = true := by simp [z2]
    have HF : Hid (setE t ⟨l, next⟩ route train = (zeroI, 0, 3)) := Lib.hid (HE4.out.trans (if_pos (.inr z2)))
    have hq_ := HE.out.symm.trans HF.out
    unfold zeroI at hq_
    simp only [Prod.mk.injEq, It3.mk.injEq] at hq_
    obtain ⟨⟨rfl, rfl⟩, rfl, rfl⟩ := hq_
    have HZ := Lib.hid (H2.out wd HBD_.out)
    have HR := Lib.hid (has_row11 HZ.out #[.slice none 0 0, .int .i64 0])
    have HBF := Lib.hid (below_row (g := w.heap.size + 1 + 1) (HBA.out wd HBD_.out) (by omega) #[.slice none 0 0, .int .i64 0])
    clear HF HE
    go_wp2_with (with_reducible refine wpList_store_rowTo (o := ⟨none, _, _, _, _, _⟩) rfl 30 _ _ rfl rfl (w.heap.size + 1 + 1) #[.slice none 0 0, .int .i64 0] rfl rfl 30 _ (HZ.out).raw11 (by kernel_rfl) (by kernel_rfl) (by kernel_rfl) ?_)
    refine bodyPost_ret (results_rtt16 rfl _ _ (w.heap.size + 1 + 1) 30 _ _ rfl HR.out Tryz.underlying30 rfl (by kernel_rfl)) rfl ?_
    exact ⟨none, 0, 0, rfl, SlO.nil _ _ _, Nat.le_refl _, HBF.out⟩
  have q2 : (next == 1099511627776) = false := by simp [z2]
  have hq_ := HE.out.symm.trans (HE4.out.trans (if_neg (by rw [HL.out]; omega)))
  simp only [Prod.mk.injEq, It3.mk.injEq] at hq_
  obtain ⟨⟨rfl, rfl⟩, h3_, rfl⟩ := hq_
  have h3_ := h3_.symm
  subst h3_
  clear HE HE4
  obtain ⟨hO, hSL, h1, hBD⟩ := pourR (f := lcC) (k := 3) (e := 57) 24 (OwR.nil lcC 3 57 wd.heap.size wd) (HS.out _ (HBA.out _ HBD_.out)) one_lc16 (Nat.le_refl _) (by have := HNB.out; omega) (by omega)
  go_upto_region 14 with fail
  clear z1 z1' z2 q1 q2
  go_wp2_with (with_reducible refine wpList_pour (o := ⟨some 61, _, _, _, _, _⟩) rfl (.const (.slice none 0 0)) (.tmp 60) 28 rfl wd.heap.size 57 (.agg #[.int .i64 0, .int .i64 0, .int .i64 0]) 3 24 Tryz.underlying28 info_lock16 ?hz1 (by decide) none (0) 0 (([]).flatMap lcC) ?hs1 hO A n c ((l).flatMap lcC) ?hx1 hSL h1 hBD ?next1)
  all_goals try rfl
  case next1 =>
    intro A1 c1 v1 ho hg
    have HO := Lib.hid (show OwR lcC 3 57 wd.heap.size v1 A1 n c1 l from ⟨ho.out, HL.out⟩)
    have HB := Lib.hid (below_own (Below.refl wd.heap.size wd) (Nat.le_refl _) hO.out (Nat.le_refl _) rfl hg.out)
    have HX := Lib.hid (HBD_.out.trans (HB.out.mono HBD_.out.size))
    clear ho hg hO hSL h1 hBD f0 f1
    obtain ⟨hN, hO, hC, h1, hBD⟩ := pushR (f := lcC) (k := 3) (e := 57) (w := v1) 24 ⟨route, train, next⟩ #[.int .i64 route, .int .i64 train, .int .i64 next] rfl rfl (one_lc16 _) HO.out HB.out.size (by have := HNB.out; omega) (by omega)
    have HBW := Lib.hid (show Below wd.heap.size wd (v1.alloc (.cells #[.int .i64 route, .int .i64 train, .int .i64 next] 57)) from HB.out.alloc HB.out.size _)
    have HLN := Lib.hid HO.out.2
    have f1 : v1.cell? ⟨w.heap.size + 1, 1, none⟩ = some (.int .i64 next) := (H1.out v1 HX.out).cell 1
    clear HO HB
    go_upto_region 15 with fail
    go_wp2_with (with_reducible refine wpList_push (o := ⟨some 69, _, _, _, _, _⟩) rfl (.tmp 62) (.tmp 68) 28 rfl wd.heap.size 57 (.agg #[.int .i64 0, .int .i64 0, .int .i64 0]) 3 24 Tryz.underlying28 info_lock16 ?hz2 (by decide) A1 (n) c1 ((l).flatMap lcC) ?hs2 hO ⟨v1.heap.size, 0, none⟩ 1 1 (lcC ⟨route, train, next⟩) ?hx2 hN hC h1 hBD ?next2)
    all_goals try rfl
    case next2 =>
      intro A2 c2 v2 ho hg
      have HO3 := Lib.hid (OwR.snoc HLN.out ho.out)
      have HB3 := Lib.hid (HBD_.out.trans ((below_own HBW.out HBW.out.size hO.out (Nat.le_refl _) rfl hg.out).mono HBD_.out.size))
      clear ho hg hN hO hC h1 hBD HBW HLN f1
      obtain ⟨n2, hn2⟩ : ∃ n2, n + 1 = n2 := ⟨_, rfl⟩
      rw [hn2] at HO3
      simp only [hn2]
      clear hn2
      have f1 : v2.cell? ⟨w.heap.size + 1, 1, none⟩ = some (.int .i64 next) := (H1.out v2 HB3.out).cell 1
      have hw1 : IntKind.i64.wrap (next + 1) = next + 1 := by rw [IntKind.wrap_i64]; have h_ := HMN.out; omega
      have hw2 : wrap64 (next + 1) = next + 1 := IntWalk.wrap64_in _ (by have h_ := HMN.out; omega)
      have HZ := Lib.hid (H2.out v2 HB3.out)
      have HV := Lib.hid (H1.out v2 HB3.out)
      have HLK := Lib.hid (LkT.of_own HO3.out)
      have HBV := Lib.hid (HBA.out _ HB3.out)
      clear f1 hw2 HO3 HB3
      go_upto_region 16 with fail
      refine wp_region_held_drew (S := (fun W_ => (∃ o_ : Array Value, Has W_ (w.heap.size + 1 + 1) 30 o_ ∧ o_.size = 2) ∧ (LkT W_ A2 n2 c2 (l ++ [⟨route, train, next⟩])) ∧ (Below w.heap.size w W_) ∧ (Has W_ (w.heap.size + 1) 30 #[.slice A n c, .int .i64 next]))) (by kernel_rfl) ?_ (fun hHeld => ?_)
      · exact ⟨⟨_, HZ.out.draw, rfl⟩, HLK.out, below_dr11 HBV.out, HV.out.draw⟩
      refine wpAnyH_take (i := 0) (oi := ⟨some 70, _, _, _, _, _⟩) (v := ?_) rfl (by kernel_rfl) (by kernel_rfl) (by kernel_rfl) (fun _ _ _ h => h) (Or.inl ⟨by rfl, ?_⟩) (by assumption) ?_
      rotate_left
      · intro w_ hSw; (try dsimp only at hSw); go_simp <;> with_reducible rfl
      simp only [Act.put, List.setIfInBounds_toArray, List.set_cons_zero, List.set_cons_succ]
      refine wpAnyH_take (i := 1) (oi := ⟨some 71, _, _, _, _, _⟩) (v := ?_) rfl (by kernel_rfl) (by kernel_rfl) (by kernel_rfl) (fun _ _ _ h => h) (Or.inl ⟨by rfl, ?_⟩) (by assumption) ?_
      rotate_left
      · intro w_ hSw; (try dsimp only at hSw); go_simp <;> with_reducible rfl
      simp only [Act.put, List.setIfInBounds_toArray, List.set_cons_zero, List.set_cons_succ]
      refine wpAnyH_take (i := 2) (oi := ⟨some 72, _, _, _, _, _⟩) (v := ?_) rfl (by kernel_rfl) (by kernel_rfl) (by kernel_rfl) (fun _ _ _ h => h) (Or.inl ⟨by rfl, ?_⟩) (by assumption) ?_
      rotate_left
      · intro w_ hSw; (try dsimp only at hSw); obtain ⟨s0, s1, s2, s3⟩ := hSw; (have q_ : w_.cell? ⟨w.heap.size + 1, 1, none⟩ = some (.int .i64 next) := s3.cell 1); go_simp <;> with_reducible rfl
      simp only [Act.put, List.setIfInBounds_toArray, List.set_cons_zero, List.set_cons_succ]
      refine wpAnyH_take (i := 3) (oi := ⟨some 73, _, _, _, _, _⟩) (v := ?_) rfl (by kernel_rfl) (by kernel_rfl) (by kernel_rfl) (fun _ _ _ h => h) (Or.inl ⟨by rfl, ?_⟩) (by assumption) ?_
      rotate_left
      · intro w_ hSw; (try dsimp only at hSw); go_simp <;> with_reducible rfl
      simp only [Act.put, List.setIfInBounds_toArray, List.set_cons_zero, List.set_cons_succ]
      refine wpAnyH_take (i := 4) (oi := ⟨some 74, _, _, _, _, _⟩) (v := ?_) rfl (by kernel_rfl) (by kernel_rfl) (by kernel_rfl) (fun _ _ _ h => h) (Or.inl ⟨by rfl, ?_⟩) (by assumption) ?_
      rotate_left
      · intro w_ hSw; (try dsimp only at hSw); go_simp <;> with_reducible rfl
      simp only [Act.put, List.setIfInBounds_toArray, List.set_cons_zero, List.set_cons_succ]
      refine wpAnyH_take (i := 5) (oi := ⟨some 75, _, _, _, _, _⟩) (v := ?_) rfl (by kernel_rfl) (by kernel_rfl) (by kernel_rfl) (fun _ _ _ h => h) (Or.inl ⟨by rfl, ?_⟩) (by assumption) ?_
      rotate_left
      · intro w_ hSw; (try dsimp only at hSw); go_simp <;> with_reducible rfl
      simp only [Act.put, List.setIfInBounds_toArray, List.set_cons_zero, List.set_cons_succ]
      refine wpAnyH_take (i := 6) (oi := ⟨some 76, _, _, _, _, _⟩) (v := ?_) rfl (by kernel_rfl) (by kernel_rfl) (by kernel_rfl) (fun _ _ _ h => h) (Or.inl ⟨by rfl, ?_⟩) (by assumption) ?_
      rotate_left
      · intro w_ hSw; (try dsimp only at hSw); obtain ⟨s0, s1, s2, s3⟩ := hSw; (have q_ : w_.cell? ⟨w.heap.size + 1, 1, none⟩ = some (.int .i64 next) := s3.cell 1); go_simp <;> with_reducible rfl
      simp only [Act.put, List.setIfInBounds_toArray, List.set_cons_zero, List.set_cons_succ]
      refine wpAnyH_ready (rs := [7]) (by kernel_rfl) (by simp) ?_
      refine AllReadyH.cons (o := ⟨none, _, _, _, _, _⟩) rfl (fun K hK => ?_) AllReadyH.nil
      rw [if_pos (by rfl)]
      obtain ⟨s0, s1, s2, s3⟩ := hHeld
      obtain ⟨o_, h_, e_⟩ := s0
      refine wp_store_row 30 _ _ rfl (w.heap.size + 1 + 1) #[.slice A2 n2 c2, .int .i64 (next + 1)] (by rfl) (by rfl) 30 o_ h_.raw11 (by kernel_rfl) e_ (by kernel_rfl) ?_
      refine hK.out _ _ ?_ (fun hHeld => ?_)
      · exact ⟨⟨_, has_row11 h_ _, rfl⟩, s1.row h_ (by decide) _, below_row s2 (by omega) _, has_rowo11 s3 (by omega) _⟩
      refine wpAnyH_more11 (T := (fun W_ => (∃ o_ : Array Value, Has W_ (w.heap.size + 1 + 1) 30 o_ ∧ o_.size = 2) ∧ (LkT W_ A2 n2 c2 (l ++ [⟨route, train, next⟩])) ∧ (Below w.heap.size w W_) ∧ (Has W_ (w.heap.size + 1) 30 #[.slice A n c, .int .i64 next]) ∧ (Has W_ (w.heap.size + 1 + 1) 30 #[.slice A2 n2 c2, .int .i64 (next + 1)]))) (fun _ ⟨s0, s1, s2, s3, s4⟩ => ⟨s0, s1, s2, s3⟩) ?_
      have hHeld2 : (fun W_ => (∃ o_ : Array Value, Has W_ (w.heap.size + 1 + 1) 30 o_ ∧ o_.size = 2) ∧ (LkT W_ A2 n2 c2 (l ++ [⟨route, train, next⟩])) ∧ (Below w.heap.size w W_) ∧ (Has W_ (w.heap.size + 1) 30 #[.slice A n c, .int .i64 next]) ∧ (Has W_ (w.heap.size + 1 + 1) 30 #[.slice A2 n2 c2, .int .i64 (next + 1)])) _ := ⟨⟨_, has_row11 h_ _, rfl⟩, s1.row h_ (by decide) _, below_row s2 (by omega) _, has_rowo11 s3 (by omega) _, has_row11 h_ _⟩
      clear hHeld
      have hHeld := hHeld2
      clear hHeld2
      clear hK K s1 s2 s3 h_ e_
      try simp only [Act.put]
      try simp only [Act.put, List.setIfInBounds_toArray, List.set_cons_zero, List.set_cons_succ]
      refine wpAnyH_take (i := 8) (oi := ⟨some 9, _, _, _, _, _⟩) (v := ?_) rfl (by kernel_rfl) (by kernel_rfl) (by kernel_rfl) (fun _ _ _ h => h) (Or.inl ⟨by rfl, ?_⟩) (by assumption) ?_
      rotate_left
      · intro w_ hSw; (try dsimp only at hSw); go_simp <;> with_reducible rfl
      simp only [Act.put, List.setIfInBounds_toArray, List.set_cons_zero, List.set_cons_succ]
      refine wpAnyH_take (i := 9) (oi := ⟨some 10, _, _, _, _, _⟩) (v := ?_) rfl (by kernel_rfl) (by kernel_rfl) (by kernel_rfl) (fun _ _ _ h => h) (Or.inl ⟨by rfl, ?_⟩) (by assumption) ?_
      rotate_left
      · intro w_ hSw; (try dsimp only at hSw); go_simp <;> with_reducible rfl
      simp only [Act.put, List.setIfInBounds_toArray, List.set_cons_zero, List.set_cons_succ]
      refine wpAnyH_done (by kernel_rfl) ?_ _
      have HR := Lib.hid hHeld.2.2.2.2
      have HF := Lib.hid (show _ ∧ _ from ⟨hHeld.2.1, hHeld.2.2.1⟩)
      clear hHeld
      go_wp2_with fail
      refine bodyPost_ret (results_rtt16 rfl _ _ (w.heap.size + 1 + 1) 30 _ _ rfl HR.out Tryz.underlying30 rfl (by kernel_rfl)) rfl ?_
      exact ⟨A2, n2, c2, rfl, HF.out.1.1, HF.out.1.2.1, HF.out.2⟩

theorem keep_take16 {l : List Lc3} {i : Nat} {s : Lc3} (h : l[i]? = some s) (no : Int) : (l.take (i + 1)).filter (keepN no) = if (s.no == no) = false then (l.take i).filter (keepN no) ++ [s] else (l.take i).filter (keepN no) := by
  rw [List.take_add_one, h, List.filter_append]
  show _ ++ List.filter _ [s] = _
  rw [List.filter_cons, List.filter_nil]
  unfold keepN
  cases (s.no == no) <;> simp
set_option maxRecDepth 100000 in
set_option maxHeartbeats 20000000 in
theorem rlfree_any (t : Tp3) (a : TpA) (l : List Lc3) (next no : Int) (A : Option Addr) (n c : Nat) (w : World) (ht : TopR w t a) (hl : lightT t = true) (hcj : t.joints.length ≤ a.cj) (hs : SlO lcC 3 w A n c l) (hc : n ≤ c) (hn : n ≤ 1000) :
    Calls Tryz.prog 11 #[.agg (tpC t a), .agg #[.slice A n c, .int .i64 next], .int .i64 no] w fun r w' => ∃ X k x, r = .returned (.tuple #[.agg #[.slice X k x, .int .i64 (freeE t ⟨l, next⟩ no).1.next], .int .i64 (freeE t ⟨l, next⟩ no).2]) ∧ SlO lcC 3 w' X k x (freeE t ⟨l, next⟩ no).1.locks ∧ k ≤ x ∧ Below w.heap.size w w' := by
  obtain ⟨wa, hwa⟩ : ∃ wa, ((w.alloc (.cells (tpC t a) 27)).alloc (.cells #[.slice A n c, .int .i64 next] 30)).alloc (.cells #[.slice none 0 0, .int .i64 0] 30) = wa := ⟨_, rfl⟩
  have hbwa : Below w.heap.size w wa := by rw [← hwa]; exact (((Below.refl _ _).alloc (Nat.le_refl _) _).alloc (by simp) _).alloc (by simp; omega) _
  have h0 : Has wa (w.heap.size) 27 (tpC t a) := by rw [← hwa]; exact (((Has.made _ _ _).beside _).beside _)
  have h1 : Has wa (w.heap.size + 1) 30 #[.slice A n c, .int .i64 next] := by rw [← hwa]; exact ((has_at11 (by simp)).beside _)
  have h2 : Has wa (w.heap.size + 1 + 1) 30 #[.slice none 0 0, .int .i64 0] := by rw [← hwa]; exact (has_at11 (by simp))
  have HWA := Lib.hid hwa; have HBWA := Lib.hid hbwa
  have HT := Lib.hid (fun W (hW : Below w.heap.size w W) => ht.under hW)
  have H0 := Lib.hid (fun W (hW : Below wa.heap.size wa W) => h0.under hW h0.lt)
  have H1 := Lib.hid (fun W (hW : Below wa.heap.size wa W) => h1.under hW h1.lt)
  have H2 := Lib.hid (fun W (hW : Below wa.heap.size wa W) => h2.under hW h2.lt)
  have HBA := Lib.hid (fun W (hW : Below wa.heap.size wa W) => hbwa.trans (hW.mono hbwa.size))
  have HLT := Lib.hid hl
  have HS := Lib.hid (fun W (hW : Below w.heap.size w W) => hs.under hW)
  have HL := Lib.hid hs.1
  have HCJ := Lib.hid hcj
  have HCC := Lib.hid hc
  have HNB := Lib.hid hn
  have HNN := Lib.hid (light_nums13 hl)
  obtain ⟨E, hE⟩ : ∃ E, freeE t ⟨l, next⟩ no = E := ⟨_, rfl⟩
  have HE := Lib.hid hE
  rw [hE]
  obtain ⟨⟨EL, EN⟩, EE⟩ := E
  dsimp only
  clear hwa hbwa h0 h1 h2 ht hl hs hcj hc hn hE
  go_enter Tryz.func11, Tryz.ntmps11
  go_upto_region 1 with fail
  rw [HWA.out]
  clear HWA
  go_wp2_with (first | (with_reducible refine wpList_load_row (o := ⟨some 11, _, _, _, _, _⟩) rfl 27 _ rfl (w.heap.size) rfl 27 (tpC t a) (0, 0) _ ((H0.out wa (Below.refl _ _))).raw11 Tryz.underlying27 rfl (by kernel_rfl) ?_) | (with_reducible refine wpList_load_row (o := ⟨some 12, _, _, _, _, _⟩) rfl 30 _ rfl (w.heap.size + 1) rfl 30 #[.slice A n c, .int .i64 next] (0, 0) _ ((H1.out wa (Below.refl _ _))).raw11 Tryz.underlying30 rfl (by kernel_rfl) ?_))
  refine (rlmay_any t a l next A n c wa (HT.out _ HBWA.out) HLT.out HCJ.out (HS.out _ HBWA.out) HCC.out HNB.out).mono ?_
  obtain ⟨bm, hbm⟩ : ∃ b, mayB t ⟨l, next⟩ = b := ⟨_, rfl⟩
  rw [hbm]
  rintro e_ w1 ⟨rfl, hb1⟩
  have HB1 := Lib.hid hb1
  have HBM := Lib.hid hbm
  clear hb1 hbm
  cases bm with
  | false =>
    have hq_ := HE.out.symm.trans (show freeE t ⟨l, next⟩ no = (zeroI, 1) from by unfold freeE; rw [HBM.out, if_pos rfl])
    unfold zeroI at hq_
    simp only [Prod.mk.injEq, It3.mk.injEq] at hq_
    obtain ⟨⟨rfl, rfl⟩, rfl⟩ := hq_
    have HZ := Lib.hid (H2.out w1 HB1.out)
    have HR := Lib.hid (has_row11 HZ.out #[.slice none 0 0, .int .i64 0])
    have HBF := Lib.hid (below_row (g := w.heap.size + 1 + 1) (HBA.out w1 HB1.out) (by omega) #[.slice none 0 0, .int .i64 0])
    clear HE
    go_wp2_with (with_reducible refine wpList_store_rowTo (o := ⟨none, _, _, _, _, _⟩) rfl 30 _ _ rfl rfl (w.heap.size + 1 + 1) #[.slice none 0 0, .int .i64 0] rfl rfl 30 _ (HZ.out).raw11 (by kernel_rfl) (by kernel_rfl) (by kernel_rfl) ?_)
    refine bodyPost_ret (results_row_tmp11 rfl _ _ (w.heap.size + 1 + 1) 30 _ _ rfl HR.out Tryz.underlying30 rfl (by kernel_rfl)) rfl ?_
    exact ⟨none, 0, 0, rfl, SlO.nil _ _ _, Nat.le_refl _, HBF.out⟩
  | true =>
  have HE1 := Lib.hid (show freeE t ⟨l, next⟩ no = if (l.filter (keepN no)).length = l.length then (zeroI, 4) else (⟨l.filter (keepN no), next⟩, 0) from by unfold freeE; rw [HBM.out, if_neg (by decide)])
  clear HBM
  have hx0 : (0 : Int) ≤ n := by omega
  go_wp2
  go_loopg [9, 10] n (fun kk v9 v10 wl => ∃ (i k : Nat) (X : Option Addr) (x : Nat), i ≤ n ∧ n - i ≤ kk ∧ v10 = .int .i64 i ∧ v9 = .slice X k x ∧ Hid (k ≤ i) ∧ Hid (OwR lcC 3 57 w1.heap.size wl X k x ((l.take i).filter (keepN no))) ∧ Hid (Below w1.heap.size w1 wl))
  case atStart => exact ⟨0, 0, none, 0, by omega, by omega, rfl, rfl, Lib.hid (by omega), Lib.hid (OwR.nil _ _ _ _ _), Lib.hid (Below.refl _ _)⟩
  case round =>
    obtain ⟨i, k, X, x, hi, hik, rfl, rfl, HK, HO, HB⟩ := hrel
    obtain ⟨k1, hk1⟩ : ∃ k1, k1 = gk := ⟨_, rfl⟩
    subst hk1
    obtain ⟨wv, hwv⟩ : ∃ wv, wv = wr := ⟨_, rfl⟩
    subst hwv
    have HX := Lib.hid (HB1.out.trans (HB.out.mono HB1.out.size))
    have f0 : wv.cell? ⟨w.heap.size + 1, 0, none⟩ = some (.slice A n c) := (H1.out wv HX.out).cell 0
    by_cases hlt : i < n
    rotate_left
    · obtain rfl : i = n := by omega
      have x1 : ¬ (i : Int) < i := by omega
      rw [List.take_of_length_le (by rw [HL.out]; exact Nat.le_refl _)] at HO
      have HKL := Lib.hid HO.out.2
      clear hik hlt hi
      by_cases y1 : k = i
      · have q1 : ((k : Int) == i) = true := by simp [y1]
        have y2 : (k : Int) = i := by omega
        have hq_ := HE.out.symm.trans (HE1.out.trans (if_pos (by rw [HKL.out, HL.out]; exact y1)))
        unfold zeroI at hq_
        simp only [Prod.mk.injEq, It3.mk.injEq] at hq_
        obtain ⟨⟨rfl, rfl⟩, rfl⟩ := hq_
        have HZ := Lib.hid (H2.out wv HX.out)
        have HR := Lib.hid (has_row11 HZ.out #[.slice none 0 0, .int .i64 0])
        have HBF := Lib.hid (below_row (g := w.heap.size + 1 + 1) (HBA.out wv HX.out) (by omega) #[.slice none 0 0, .int .i64 0])
        clear HE
        go_wp2_with (with_reducible refine wpList_store_rowTo (o := ⟨none, _, _, _, _, _⟩) rfl 30 _ _ rfl rfl (w.heap.size + 1 + 1) #[.slice none 0 0, .int .i64 0] rfl rfl 30 _ (HZ.out).raw11 (by kernel_rfl) (by kernel_rfl) (by kernel_rfl) ?_)
        refine bodyPost_ret (results_row_tmp11 rfl _ _ (w.heap.size + 1 + 1) 30 _ _ rfl HR.out Tryz.underlying30 rfl (by kernel_rfl)) rfl ?_
        exact ⟨none, 0, 0, rfl, SlO.nil _ _ _, Nat.le_refl _, HBF.out⟩
      have q1 : ((k : Int) == i) = false := by simp; omega
      have y2 : ¬ (k : Int) = i := by omega
      have hq_ := HE.out.symm.trans (HE1.out.trans (if_neg (by rw [HKL.out, HL.out]; exact y1)))
      simp only [Prod.mk.injEq, It3.mk.injEq] at hq_
      obtain ⟨⟨rfl, h3_⟩, rfl⟩ := hq_
      have h3_ := h3_.symm
      subst h3_
      have f1 : wv.cell? ⟨w.heap.size + 1, 1, none⟩ = some (.int .i64 next) := (H1.out wv HX.out).cell 1
      have HZ := Lib.hid (H2.out wv HX.out)
      have HLK := Lib.hid (LkT.of_own HO.out)
      have HR := Lib.hid (has_row11 HZ.out #[.slice X k x, .int .i64 next])
      have HLR := Lib.hid (LkT.row HLK.out HZ.out (by decide) #[.slice X k x, .int .i64 next])
      have HBF := Lib.hid (below_row (g := w.heap.size + 1 + 1) (HBA.out _ HX.out) (by omega) #[.slice X k x, .int .i64 next])
      clear HE HE1
      go_wp2_with (with_reducible refine wpList_store_rowTo (o := ⟨none, _, _, _, _, _⟩) rfl 30 _ _ rfl rfl (w.heap.size + 1 + 1) #[.slice X k x, .int .i64 next] rfl rfl 30 _ (HZ.out).raw11 (by kernel_rfl) (by kernel_rfl) (by kernel_rfl) ?_)
      refine bodyPost_ret (results_row_tmp11 rfl _ _ (w.heap.size + 1 + 1) 30 _ _ rfl HR.out Tryz.underlying30 rfl (by kernel_rfl)) rfl ?_
      exact ⟨X, k, x, rfl, HLR.out.1, HLR.out.2.1, HBF.out⟩
    obtain ⟨s, hs⟩ : ∃ s, l[i]? = some s := ⟨_, List.getElem?_eq_getElem (by rw [HL.out]; exact hlt)⟩
    have HTK := Lib.hid (keep_take16 hs no)
    obtain ⟨bk, off, rfl, hc⟩ := (HS.out w (Below.refl _ _)).locks hs
    obtain ⟨d0, d1, d2⟩ := hc wv (HBA.out _ HX.out)
    clear hs hc
    obtain ⟨sr, st, sn⟩ := s
    dsimp only at *
    have x1 : (i : Int) < n := by omega
    have x2 : (0 : Int) ≤ i := by omega
    have HIN := Lib.hid (show i < n ∧ n - i ≤ k1 from ⟨hlt, hik⟩)
    obtain ⟨q, hq⟩ : ∃ q, (sn == no) = q := ⟨_, rfl⟩
    have z1 : (sn != no) = !q := by rw [← hq]; rfl
    rw [hq] at HTK
    clear hlt hi hik hq
    cases q with
    | true =>
      rw [if_neg (by decide)] at HTK
      go_wp2
      go_roundg (k1 - 1)
      case measure => have := HIN.out; omega
      case rel => exact ⟨i + 1, k, X, x, by have := HIN.out; omega, by have := HIN.out; omega, by rw [IntWalk.wrap64_in _ (by have h1_ := HIN.out; have h2_ := HNB.out; omega)]; go_num, rfl, Lib.hid (by have := HK.out; omega), Lib.hid (by rw [HTK.out]; exact HO.out), HB⟩
    | false =>
      rw [if_pos rfl] at HTK
      obtain ⟨hN, hO, hC, h1, hBD⟩ := pushR (f := lcC) (k := 3) (e := 57) (w := wv) 24 ⟨sr, st, sn⟩ #[.int .i64 sr, .int .i64 st, .int .i64 sn] rfl rfl (one_lc16 _) HO.out HB.out.size (by have h1_ := HK.out; have h2_ := HIN.out; have h3_ := HNB.out; omega) (by omega)
      have HBW := Lib.hid (show Below w1.heap.size w1 (wv.alloc (.cells #[.int .i64 sr, .int .i64 st, .int .i64 sn] 57)) from HB.out.alloc HB.out.size _)
      have HLN := Lib.hid HO.out.2
      clear HO HB
      go_upto_region 9 with fail
      go_wp2_with (with_reducible refine wpList_push (o := ⟨some 39, _, _, _, _, _⟩) rfl (.tmp 32) (.tmp 38) 28 rfl w1.heap.size 57 (.agg #[.int .i64 0, .int .i64 0, .int .i64 0]) 3 24 Tryz.underlying28 info_lock16 ?hz1 (by decide) X (k) x (((l.take i).filter (keepN no)).flatMap lcC) ?hs1 hO ⟨wv.heap.size, 0, none⟩ 1 1 (lcC ⟨sr, st, sn⟩) ?hx1 hN hC h1 hBD ?next1)
      all_goals try rfl
      case next1 =>
        intro A1 c1 v2 ho hg
        have HO3 := Lib.hid (OwR.snoc HLN.out ho.out)
        have HB3 := Lib.hid (below_own HBW.out HBW.out.size hO.out (Nat.le_refl _) rfl hg.out)
        clear ho hg hN hO hC h1 hBD HBW HLN d0 d1 d2 f0
        go_wp2
        go_roundg (k1 - 1)
        case measure => have := HIN.out; omega
        case rel => exact ⟨i + 1, k + 1, A1, c1, by have := HIN.out; omega, by have := HIN.out; omega, by rw [IntWalk.wrap64_in _ (by have h1_ := HIN.out; have h2_ := HNB.out; omega)]; go_num, rfl, Lib.hid (by have := HK.out; omega), Lib.hid (by rw [HTK.out]; exact HO3.out), HB3⟩

end Go.Proofs.YteioefgckigbcaaGreat
