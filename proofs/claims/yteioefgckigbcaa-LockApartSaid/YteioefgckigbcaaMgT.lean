/-
  ToChkA, ToChkB, ToChkC, ToChkD, TpOwn: merged.
-/
import Derived.Test.YteioefgckigbcaaToD
import Derived.Test.YteioefgckigbcaaTpRefE
import Derived.BigQuiet
import Derived.IntWalk
import Derived.Test.YteioefgckigbcaaToLen

/-
  package topo as landed: joints compared, slices.Contains of joints; checkJoint.
-/
namespace Go.Proofs.Yteioefgckigbcaa

open Go.RowKit

open Go.Great

theorem run_partE13 (w : World) (xs : Array Value) (i : Nat) : (part 69 xs i).run Try.prog w = .ok (.agg (xs.extract i (i + 2))) w := by
  simp [part, Try.isAgg69, Try.sizeOf69]
set_option maxRecDepth 100000 in
set_option maxHeartbeats 2000000 in
theorem eq_endd13 (d : Nat) (a b : Int × Int) (W : World) : (Op.equalIn (d + 2) 69 (.agg (endA a)) (.agg (endA b))).run Try.prog W = .ok (eqE a b) W := by
  rw [show d + 2 = (d + 1) + 1 from rfl, run_equalIn_struct W (d + 1) 69 _ _ (by kernel_rfl) (by kernel_rfl)]
  simp only [Program.fieldsOf, Try.underlying69]
  unfold eqE endA
  by_cases h0 : a.1 = b.1
  rotate_left
  · refine (run_eqNo13 W (d + 1) (endA a) (endA b) _ _ (.int .i64 a.1) (.int .i64 b.1) (by decide) (run_part1_11 W 3 (endA a) 0 (.int .i64 a.1) (by kernel_rfl) rfl) (run_part1_11 W 3 (endA b) 0 (.int .i64 b.1) (by kernel_rfl) rfl) (by rw [run_equalIn_int W d 3 .i64 .i64 _ _ Try.underlying3]; simp [h0])).trans ?_
    have e : (a.1 == b.1) = false := by simp [h0]
    simp [e]
  refine (run_eqField11 W (d + 1) (endA a) (endA b) _ _ (.int .i64 a.1) (.int .i64 b.1) (by decide) (run_part1_11 W 3 (endA a) 0 (.int .i64 a.1) (by kernel_rfl) rfl) (run_part1_11 W 3 (endA b) 0 (.int .i64 b.1) (by kernel_rfl) rfl) (by rw [run_equalIn_int W d 3 .i64 .i64 _ _ Try.underlying3]; simp [h0])).trans ?_
  by_cases h1 : a.2 = b.2
  rotate_left
  · refine (run_eqNo13 W (d + 1) (endA a) (endA b) _ _ (.int .i64 a.2) (.int .i64 b.2) (by decide) (run_part1_11 W 3 (endA a) 1 (.int .i64 a.2) (by kernel_rfl) rfl) (run_part1_11 W 3 (endA b) 1 (.int .i64 b.2) (by kernel_rfl) rfl) (by rw [run_equalIn_int W d 3 .i64 .i64 _ _ Try.underlying3]; simp [h1])).trans ?_
    have e : (a.2 == b.2) = false := by simp [h1]
    simp [e]
  refine (run_eqField11 W (d + 1) (endA a) (endA b) _ _ (.int .i64 a.2) (.int .i64 b.2) (by decide) (run_part1_11 W 3 (endA a) 1 (.int .i64 a.2) (by kernel_rfl) rfl) (run_part1_11 W 3 (endA b) 1 (.int .i64 b.2) (by kernel_rfl) rfl) (by rw [run_equalIn_int W d 3 .i64 .i64 _ _ Try.underlying3]; simp [h1])).trans ?_
  refine (run_eqDone11 W (d + 1) _ _).trans ?_
  simp [h0, h1]
def eqJ (a b : Jt3) : Bool := eqE a.a b.a && eqE a.b b.b
set_option maxRecDepth 100000 in
set_option maxHeartbeats 2000000 in
theorem eq_jt13 (a b : Jt3) (W : World) : (Op.equalIn 10000 71 (.agg (jtA a)) (.agg (jtA b))).run Try.prog W = .ok (eqJ a b) W := by
  rw [show (10000 : Nat) = 9999 + 1 from rfl, run_equalIn_struct W 9999 71 _ _ (by kernel_rfl) (by kernel_rfl)]
  simp only [Program.fieldsOf, Try.underlying71]
  unfold eqJ
  have p0 : ∀ x : Jt3, (part 69 (jtA x) 0).run Try.prog W = .ok (.agg (endA x.a)) W := fun x => run_partE13 W _ 0
  have p1 : ∀ x : Jt3, (part 69 (jtA x) 2).run Try.prog W = .ok (.agg (endA x.b)) W := fun x => run_partE13 W _ 2
  have q0 := eq_endd13 9997 a.a b.a W
  have q1 := eq_endd13 9997 a.b b.b W
  cases h0 : eqE a.a b.a with
  | false =>
    rw [h0] at q0
    refine (run_eqNo13 W 9999 (jtA a) (jtA b) _ _ _ _ (by decide) (p0 a) (p0 b) q0).trans ?_
    rfl
  | true =>
    rw [h0] at q0
    refine (run_eqField11 W 9999 (jtA a) (jtA b) _ _ _ _ (by decide) (p0 a) (p0 b) q0).trans ?_
    cases h1 : eqE a.b b.b with
    | false =>
      rw [h1] at q1
      refine (run_eqNo13 W 9999 (jtA a) (jtA b) _ _ _ _ (by decide) (p1 a) (p1 b) q1).trans ?_
      rfl
    | true =>
      rw [h1] at q1
      refine (run_eqField11 W 9999 (jtA a) (jtA b) _ _ _ _ (by decide) (p1 a) (p1 b) q1).trans ?_
      exact run_eqDone11 W 9999 _ _
theorem join_eqJ (l : List Jt3) (j : Jt3) : (l.any (eqJ j) || l.any (eqJ ⟨j.b, j.a⟩)) = joinB l j.a j.b := by
  unfold joinB
  rw [Bool.eq_iff_iff]
  simp only [Bool.or_eq_true, List.any_eq_true, eqJ, joinJ, Bool.and_eq_true]
  constructor
  · rintro (⟨y, hy, h1, h2⟩ | ⟨y, hy, h1, h2⟩)
    · exact ⟨y, hy, .inl ⟨by rw [eqE_comm]; exact h1, by rw [eqE_comm]; exact h2⟩⟩
    · exact ⟨y, hy, .inr ⟨by rw [eqE_comm]; exact h1, by rw [eqE_comm]; exact h2⟩⟩
  · rintro ⟨y, hy, (⟨h1, h2⟩ | ⟨h1, h2⟩)⟩
    · exact .inl ⟨y, hy, by rw [eqE_comm]; exact h1, by rw [eqE_comm]; exact h2⟩
    · exact .inr ⟨y, hy, by rw [eqE_comm]; exact h1, by rw [eqE_comm]; exact h2⟩

set_option maxRecDepth 100000 in
set_option maxHeartbeats 8000000 in
theorem oixj_any (l : List Jt3) (v : Jt3) (A : Option Addr) (n c : Nat) (w : World) (hs : SlO jtC 4 w A n c l) (hbig : n ≤ 1048576) :
    Calls Try.prog 73 #[.slice A n c, .agg (jtA v)] w fun e w' => e = .returned (.int .i64 (idxL (eqJ v) l)) ∧ Below w.heap.size w w' := by
  obtain ⟨wa, hwa⟩ : ∃ wa, w.alloc (.cells (jtA v) 71) = wa := ⟨_, rfl⟩
  have hbwa : Below w.heap.size w wa := by rw [← hwa]; exact (Below.refl _ _).alloc (Nat.le_refl _) _
  have h0 : Has wa (w.heap.size) 71 (jtA v) := by rw [← hwa]; exact (Has.made _ _ _)
  have HWA := Lib.hid hwa; have HBWA := Lib.hid hbwa
  have HN : Hid (l.length = n) := Lib.hid hs.1
  have HW := Lib.hid (hs.under hbwa)
  have c0 : wa.cell? ⟨w.heap.size, 0, none⟩ = some (.int .i64 v.a.1) := h0.cell 0
  have c1 : wa.cell? ⟨w.heap.size, 1, none⟩ = some (.int .i64 v.a.2) := h0.cell 1
  have c2 : wa.cell? ⟨w.heap.size, 2, none⟩ = some (.int .i64 v.b.1) := h0.cell 2
  have c3 : wa.cell? ⟨w.heap.size, 3, none⟩ = some (.int .i64 v.b.2) := h0.cell 3
  have HQ := Lib.hid (fun x => eq_jt13 v x)
  clear hs hwa hbwa h0
  have x0 : (0 : Int) ≤ n := by omega
  obtain ⟨R, hR⟩ : ∃ R, idxL (eqJ v) l = R := ⟨_, rfl⟩
  have HR := Lib.hid hR
  rw [hR]
  clear hR
  unfold jtA at *
  go_enter Try.func73, Try.ntmps73
  go_upto_region 1 with fail
  rw [HWA.out]
  clear HWA
  go_wp2
  go_loopg [8] n (fun kk s8 wl => ∃ j q : Nat, j ≤ n ∧ n - j ≤ kk ∧ s8 = .int .i64 j ∧ Hid (∀ i x, i < j → l[i]? = some x → eqJ v x = false) ∧ wl = wa.drewN q)
  case atStart => exact ⟨0, 0, by omega, by omega, rfl, Lib.hid fun i x h => absurd h (by omega), rfl⟩
  case round =>
    obtain ⟨j, q, hj, hjk, rfl, HNO, rfl⟩ := hrel
    by_cases hlt : j < n
    · obtain ⟨x, hx⟩ : ∃ x, l[j]? = some x := ⟨_, List.getElem?_eq_getElem (by rw [HN.out]; omega)⟩
      obtain ⟨bk, off, rfl, d0, d1, d2, d3⟩ := HW.out.joint hx
      have HX := Lib.hid hx
      have y0 : (0 : Int) ≤ j := by omega
      have y1 : (j : Int) < n := by omega
      have q1 := HQ.out x
      clear hx
      generalize hb : eqJ v x = b at *
      have HBE := Lib.hid hb
      clear hb
      go_upto_region 4 with fail
      cases b with
      | true =>
        have HF : Hid (R = j) := Lib.hid (by rw [← HR.out]; exact idx_hit HX.out HBE.out HNO.out)
        go_quiet (fail)
        go_wp2
        go_ret
        exact ⟨by rw [HF.out]; rfl, by first | exact below_draws HBWA.out _ | (rw [World.drewN_drewN]; exact below_draws HBWA.out _)⟩
      | false =>
        have HN2 : Hid (∀ i y, i < j + 1 → l[i]? = some y → eqJ v y = false) := Lib.hid fun i y hi hy => by
          by_cases h : i = j
          · subst h; rw [HX.out] at hy; cases hy; exact HBE.out
          · exact HNO.out i y (by omega) hy
        go_quiet (fail)
        go_wp2
        go_roundg (gk - 1)
        case measure => omega
        case rel => exact ⟨j + 1, _, by omega, by omega, by go_num, HN2, by first | rfl | rw [World.drewN_drewN]⟩
    · have y1 : ¬ (j : Int) < n := by omega
      have HF : Hid (R = -1) := Lib.hid (by rw [← HR.out]; exact idx_miss fun i y hi hy => HNO.out i y (by have := HN.out; omega) hy)
      go_wp2
      go_ret
      exact ⟨by rw [HF.out]; rfl, below_draws HBWA.out _⟩

set_option maxRecDepth 100000 in
set_option maxHeartbeats 8000000 in
theorem octj_any (l : List Jt3) (v : Jt3) (A : Option Addr) (n c : Nat) (w : World) (hs : SlO jtC 4 w A n c l) (hbig : n ≤ 1048576) :
    Calls Try.prog 52 #[.slice A n c, .agg (jtA v)] w fun e w' => e = .returned (.bool (l.any (eqJ v))) ∧ Below w.heap.size w w' := by
  obtain ⟨wa, hwa⟩ : ∃ wa, w.alloc (.cells (jtA v) 71) = wa := ⟨_, rfl⟩
  have hbwa : Below w.heap.size w wa := by rw [← hwa]; exact (Below.refl _ _).alloc (Nat.le_refl _) _
  have h0 : Has wa (w.heap.size) 71 (jtA v) := by rw [← hwa]; exact (Has.made _ _ _)
  have HWA := Lib.hid hwa; have HBWA := Lib.hid hbwa
  have H := Lib.hid (oixj_any l v A n c wa (hs.under hbwa) hbig)
  have HV := Lib.hid h0
  clear hs hwa hbwa h0
  rw [← idx_nonneg]
  generalize idxL (eqJ v) l = R at *
  go_enter Try.func52, Try.ntmps52
  go_upto_region 1 with fail
  rw [HWA.out]
  clear HWA
  go_wp2_with (with_reducible refine wpList_load_row (o := ⟨some 6, _, _, _, _, _⟩) rfl 71 _ rfl (w.heap.size) rfl 71 (jtA v) (0, 0) _ (HV.out).raw11 Try.underlying71 rfl (by kernel_rfl) ?_)
  refine H.out.mono ?_
  rintro e w1 ⟨rfl, hb1⟩
  have HB1 := Lib.hid (HBWA.out.trans (hb1.mono HBWA.out.size))
  clear hb1 H HV HBWA
  go_wp2
  go_ret
  exact ⟨rfl, HB1.out⟩

end Go.Proofs.Yteioefgckigbcaa

/-
  package topo as landed: checkJoint.
-/
namespace Go.Proofs.Yteioefgckigbcaa

open Go.RowKit

open Go.Great

set_option maxRecDepth 100000 in
set_option maxHeartbeats 8000000 in
theorem otcj_any (t : Tp3) (a : TpA) (i : Nat) (j : Jt3) (w : World) (ht : TopR w t a) (hl : t.edges.length ≤ 100) (hjl : t.joints.length ≤ 100) (hcj : t.joints.length ≤ a.cj) (hj : t.joints[i]? = some j) :
    Calls Try.prog 32 #[.agg (tpC t a), .int .i64 i] w fun e w' => e = .returned (.int .i64 (jointE t i)) ∧ Below w.heap.size w w' := by
  obtain ⟨wa, hwa⟩ : ∃ wa, w.alloc (.cells (tpC t a) 27) = wa := ⟨_, rfl⟩
  have hbwa : Below w.heap.size w wa := by rw [← hwa]; exact (Below.refl _ _).alloc (Nat.le_refl _) _
  have h0 : Has wa (w.heap.size) 27 (tpC t a) := by rw [← hwa]; exact (Has.made _ _ _)
  have HWA := Lib.hid hwa; have HBWA := Lib.hid hbwa
  have hil := (List.getElem?_eq_some_iff.1 hj).1
  rw [jointE_at hj]
  obtain ⟨nj, hnj⟩ : ∃ n, t.joints.length = n := ⟨_, rfl⟩
  obtain ⟨AJ, hAJ⟩ : ∃ A, a.aj = A := ⟨_, rfl⟩
  have hjs : SlO jtC 4 w AJ nj a.cj t.joints := by rw [← hAJ, ← hnj]; exact ht.j
  obtain ⟨bk, off, rfl, -, -, -, -⟩ := hjs.joint hj
  have HJS := Lib.hid hjs
  have HCX := Lib.hid (fun W (hW : Below w.heap.size w W) => (show W.cell? ⟨bk, off + i * 4, none⟩ = some (.int .i64 j.a.1) ∧ W.cell? ⟨bk, off + i * 4 + 1, none⟩ = some (.int .i64 j.a.2) ∧ W.cell? ⟨bk, off + i * 4 + 2, none⟩ = some (.int .i64 j.b.1) ∧ W.cell? ⟨bk, off + i * 4 + 3, none⟩ = some (.int .i64 j.b.2) from by obtain ⟨b_, o_, e_, h_⟩ := (hjs.under hW).joint hj; injection e_ with e_; injection e_ with e1_ e2_ _; subst e1_ e2_; exact h_))
  have c1 : wa.cell? ⟨w.heap.size, 1, none⟩ = some (.slice (some ⟨bk, off, none⟩) nj a.cj) := by rw [← hnj, ← hAJ]; exact h0.cell 1
  have HC1 := Lib.hid (fun W (hW : Below wa.heap.size wa W) => (hW.cell (cell_block c1)).trans c1)
  have HBA := Lib.hid (fun W (hW : Below wa.heap.size wa W) => hbwa.trans (hW.mono hbwa.size))
  have HH0 := Lib.hid h0
  have HL := Lib.hid hl; have HJL : Hid (nj ≤ 100) := Lib.hid (by rw [← hnj]; exact hjl)
  have y0 : (0 : Int) ≤ i := by omega
  have y1 : (i : Int) < nj := by omega
  have y2 : (i : Int) ≤ a.cj := by omega
  have HIL : Hid (i < nj) := Lib.hid (by omega)
  have HCN := Lib.hid (fun W => otconn_any t a j W hl)
  have q1 := eq_end13 j.a j.b
  have HJE := join_eqJ (t.joints.take i) j
  obtain ⟨k1, hk1⟩ : ∃ b, (t.joints.take i).any (eqJ j) = b := ⟨_, rfl⟩
  obtain ⟨k2, hk2⟩ : ∃ b, (t.joints.take i).any (eqJ ⟨j.b, j.a⟩) = b := ⟨_, rfl⟩
  rw [hk1, hk2] at HJE
  have HOC1 := Lib.hid (fun W (hW : Below w.heap.size w W) => (octj_any (t.joints.take i) j (some ⟨bk, off, none⟩) i a.cj W ((hjs.under hW).take (fun _ => rfl) (by simp) (by omega)) (by omega)))
  have HOC2 := Lib.hid (fun W (hW : Below w.heap.size w W) => (octj_any (t.joints.take i) ⟨j.b, j.a⟩ (some ⟨bk, off, none⟩) i a.cj W ((hjs.under hW).take (fun _ => rfl) (by simp) (by omega)) (by omega)))
  rw [hk1] at HOC1
  rw [hk2] at HOC2
  have hce : (endB t j.a && endB t j.b) = connB t j := rfl
  rw [hce, ← HJE]
  obtain ⟨cn, hcn⟩ : ∃ b, connB t j = b := ⟨_, rfl⟩
  obtain ⟨eq, heq⟩ : ∃ b, eqE j.a j.b = b := ⟨_, rfl⟩
  rw [hcn, heq]
  rw [hcn] at HCN
  rw [heq] at q1
  clear hwa hbwa h0 ht hl hjl hcj hj hjs hil hnj hAJ hk1 hk2 hce hcn heq HJE c1
  obtain ⟨⟨j1, j2⟩, ⟨j3, j4⟩⟩ := j
  unfold jtA at HCN HOC1 HOC2
  unfold endA at q1
  dsimp only at *
  go_enter Try.func32, Try.ntmps32
  go_upto_region 1 with fail
  rw [HWA.out]
  clear HWA
  refine wp_region_held_drew (S := (fun W_ => Has W_ (w.heap.size) 27 (tpC t a) ∧ Below wa.heap.size wa W_)) (by kernel_rfl) ?_ (fun hHeld => ?_)
  · exact ⟨HH0.out.draw, below_dr11 (Below.refl _ _)⟩
  refine wpAnyH_take (i := 0) (oi := ⟨some 8, _, _, _, _, _⟩) (v := ?_) rfl (by kernel_rfl) (by kernel_rfl) (by kernel_rfl) (fun _ _ _ h => h) (Or.inl ⟨by rfl, ?_⟩) (by assumption) ?_
  rotate_left
  · intro w_ hSw; (try dsimp only at hSw); go_simp <;> with_reducible rfl
  simp only [Act.put, List.setIfInBounds_toArray, List.set_cons_zero, List.set_cons_succ]
  refine wpAnyH_take (i := 1) (oi := ⟨some 9, _, _, _, _, _⟩) (v := ?_) rfl (by kernel_rfl) (by kernel_rfl) (by kernel_rfl) (fun _ _ _ h => h) (Or.inl ⟨by rfl, ?_⟩) (by assumption) ?_
  rotate_left
  · intro w_ hSw; (try dsimp only at hSw); have c1_ := HC1.out w_ hSw.2; go_simp <;> with_reducible rfl
  simp only [Act.put, List.setIfInBounds_toArray, List.set_cons_zero, List.set_cons_succ]
  refine wpAnyH_take (i := 2) (oi := ⟨some 10, _, _, _, _, _⟩) (v := ?_) rfl (by kernel_rfl) (by kernel_rfl) (by kernel_rfl) (fun _ _ _ h => h) (Or.inl ⟨by rfl, ?_⟩) (by assumption) ?_
  rotate_left
  · intro w_ hSw; (try dsimp only at hSw); go_simp <;> with_reducible rfl
  simp only [Act.put, List.setIfInBounds_toArray, List.set_cons_zero, List.set_cons_succ]
  refine wpAnyH_take (i := 3) (oi := ⟨some 11, _, _, _, _, _⟩) (v := ?_) rfl (by kernel_rfl) (by kernel_rfl) (by kernel_rfl) (fun _ _ _ h => h) (Or.inl ⟨by rfl, ?_⟩) (by assumption) ?_
  rotate_left
  · intro w_ hSw; (try dsimp only at hSw); go_simp <;> with_reducible rfl
  simp only [Act.put, List.setIfInBounds_toArray, List.set_cons_zero, List.set_cons_succ]
  refine wpAnyH_take (i := 4) (oi := ⟨some 12, _, _, _, _, _⟩) (v := ?_) rfl (by kernel_rfl) (by kernel_rfl) (by kernel_rfl) (fun _ _ _ h => h) (Or.inl ⟨by rfl, ?_⟩) (by assumption) ?_
  rotate_left
  · intro w_ hSw; (try dsimp only at hSw); obtain ⟨cx0_, cx1_, cx2_, cx3_⟩ := HCX.out w_ (HBA.out w_ hSw.2); go_simp <;> with_reducible rfl
  simp only [Act.put, List.setIfInBounds_toArray, List.set_cons_zero, List.set_cons_succ]
  refine wpAnyH_take (i := 5) (oi := ⟨some 13, _, _, _, _, _⟩) (v := ?_) rfl (by kernel_rfl) (by kernel_rfl) (by kernel_rfl) (fun _ _ _ h => h) (Or.inl ⟨by rfl, ?_⟩) (by assumption) ?_
  rotate_left
  · intro w_ hSw; (try dsimp only at hSw); go_simp <;> with_reducible rfl
  simp only [Act.put, List.setIfInBounds_toArray, List.set_cons_zero, List.set_cons_succ]
  refine wpAnyH_take (i := 6) (oi := ⟨some 14, _, _, _, _, _⟩) (v := ?_) rfl (by kernel_rfl) (by kernel_rfl) (by kernel_rfl) (fun _ _ _ h => h) (Or.inl ⟨by rfl, ?_⟩) (by assumption) ?_
  rotate_left
  · intro w_ hSw; (try dsimp only at hSw); have c1_ := HC1.out w_ hSw.2; go_simp <;> with_reducible rfl
  simp only [Act.put, List.setIfInBounds_toArray, List.set_cons_zero, List.set_cons_succ]
  refine wpAnyH_take (i := 7) (oi := ⟨some 15, _, _, _, _, _⟩) (v := ?_) rfl (by kernel_rfl) (by kernel_rfl) (by kernel_rfl) (fun _ _ _ h => h) (Or.inl ⟨by rfl, ?_⟩) (by assumption) ?_
  rotate_left
  · intro w_ hSw; (try dsimp only at hSw); go_simp <;> with_reducible rfl
  simp only [Act.put, List.setIfInBounds_toArray, List.set_cons_zero, List.set_cons_succ]
  refine wpAnyH_take (i := 8) (oi := ⟨some 16, _, _, _, _, _⟩) (v := ?_) rfl (by kernel_rfl) (by kernel_rfl) (by kernel_rfl) (fun _ _ _ h => h) (Or.inl ⟨by rfl, ?_⟩) (by assumption) ?_
  rotate_left
  · intro w_ hSw; (try dsimp only at hSw); go_simp <;> with_reducible rfl
  simp only [Act.put, List.setIfInBounds_toArray, List.set_cons_zero, List.set_cons_succ]
  refine wpAnyH_ready (rs := [9]) (by kernel_rfl) (by simp) ?_
  refine AllReadyH.cons (o := ⟨some 5, _, _, _, _, _⟩) rfl (fun K hK => ?_) ?_
  · go_simp
    obtain ⟨s0, s1⟩ := hHeld
    obtain ⟨gx, hgx⟩ : ∃ gx, wa.heap.size = gx := ⟨_, rfl⟩
    have hgl : w.heap.size < gx := by rw [← hgx]; exact s0.lt
    have hgl2 : wa.heap.size ≤ gx := by rw [← hgx]; exact s1.size
    rw [hgx]
    refine hK.out _ _ ?_ (fun hHeld => ?_)
    · exact ⟨s0.beside _, below_al11 s1 _⟩
    refine wpAnyH_more11 (T := (fun W_ => Has W_ (w.heap.size) 27 (tpC t a) ∧ Below wa.heap.size wa W_ ∧ (∃ o_ : Array Value, Has W_ (gx) 71 o_ ∧ o_.size = 4))) (fun _ ⟨s0, s1, s2⟩ => ⟨s0, s1⟩) ?_
    have hHeld2 : (fun W_ => Has W_ (w.heap.size) 27 (tpC t a) ∧ Below wa.heap.size wa W_ ∧ (∃ o_ : Array Value, Has W_ (gx) 71 o_ ∧ o_.size = 4)) _ := ⟨s0.beside (.cells #[.int .i64 0, .int .i64 0, .int .i64 0, .int .i64 0] 71), below_al11 s1 (.cells #[.int .i64 0, .int .i64 0, .int .i64 0, .int .i64 0] 71), ⟨#[.int .i64 0, .int .i64 0, .int .i64 0, .int .i64 0], (by rw [← hgx]; exact Has.made _ _ _), by kernel_rfl⟩⟩
    clear hHeld
    have hHeld := hHeld2
    clear hHeld2 hK K hgx s0 s1
    try simp only [Act.put, List.setIfInBounds_toArray, List.set_cons_zero, List.set_cons_succ]
    refine wpAnyH_ready (rs := [10]) (by kernel_rfl) (by simp) ?_
    refine AllReadyH.cons (o := ⟨none, _, _, _, _, _⟩) rfl (fun K hK => ?_) ?_
    · rw [if_pos (by rfl)]
      obtain ⟨s0, s1, s2⟩ := hHeld
      obtain ⟨o_, h_, e_⟩ := s2
      refine wp_store_row 71 _ _ rfl (gx) #[.int .i64 j1, .int .i64 j2, .int .i64 j3, .int .i64 j4] (by rfl) (by rfl) 71 o_ h_.raw11 (by kernel_rfl) e_ (by kernel_rfl) ?_
      refine hK.out _ _ ?_ (fun hHeld => ?_)
      · exact ⟨has_rowo11 s0 (by omega) _, below_row s1 (by omega) _, ⟨_, has_row11 h_ #[.int .i64 j1, .int .i64 j2, .int .i64 j3, .int .i64 j4], by kernel_rfl⟩⟩
      refine wpAnyH_more11 (T := (fun W_ => Has W_ (w.heap.size) 27 (tpC t a) ∧ Below wa.heap.size wa W_ ∧ Has W_ (gx) 71 #[.int .i64 j1, .int .i64 j2, .int .i64 j3, .int .i64 j4])) (fun _ ⟨s0, s1, s2⟩ => ⟨s0, s1, ⟨_, s2, by kernel_rfl⟩⟩) ?_
      have hHeld2 : (fun W_ => Has W_ (w.heap.size) 27 (tpC t a) ∧ Below wa.heap.size wa W_ ∧ Has W_ (gx) 71 #[.int .i64 j1, .int .i64 j2, .int .i64 j3, .int .i64 j4]) _ := ⟨has_rowo11 s0 (by omega) _, below_row s1 (by omega) _, has_row11 h_ #[.int .i64 j1, .int .i64 j2, .int .i64 j3, .int .i64 j4]⟩
      clear hHeld
      have hHeld := hHeld2
      clear hHeld2 hK K h_ e_ s0 s1
      try simp only [Act.put]
      refine wpAnyH_take (i := 11) (oi := ⟨some 6, _, _, _, _, _⟩) (v := ?_) rfl (by kernel_rfl) (by kernel_rfl) (by kernel_rfl) (fun _ _ _ h => h) (Or.inl ⟨by rfl, ?_⟩) (by assumption) ?_
      rotate_left
      · intro w_ hSw; (try dsimp only at hSw); go_simp <;> with_reducible rfl
      simp only [Act.put, List.setIfInBounds_toArray, List.set_cons_zero, List.set_cons_succ]
      refine wpAnyH_done (by kernel_rfl) ?_ _
      obtain ⟨w2, hw2⟩ : ∃ w2, ((wa.alloc (.cells #[.int .i64 0, .int .i64 0, .int .i64 0, .int .i64 0] 71)).drew).setRow gx #[.int .i64 j1, .int .i64 j2, .int .i64 j3, .int .i64 j4] = w2 := ⟨_, rfl⟩
      have hS2 : Has w2 (w.heap.size) 27 (tpC t a) ∧ Below wa.heap.size wa w2 ∧ Has w2 (gx) 71 #[.int .i64 j1, .int .i64 j2, .int .i64 j3, .int .i64 j4] := by rw [← hw2]; exact hHeld
      rw [hw2]
      clear hw2
      have HS2 := Lib.hid hS2
      clear hHeld hS2
      have e0 : w2.cell? ⟨gx, 0, none⟩ = some (.int .i64 j1) := HS2.out.2.2.cell 0
      have e1 : w2.cell? ⟨gx, 1, none⟩ = some (.int .i64 j2) := HS2.out.2.2.cell 1
      have e2 : w2.cell? ⟨gx, 2, none⟩ = some (.int .i64 j3) := HS2.out.2.2.cell 2
      have e3 : w2.cell? ⟨gx, 3, none⟩ = some (.int .i64 j4) := HS2.out.2.2.cell 3
      clear y0 y1 y2
      go_upto_region 3 with fail
      obtain ⟨w3, hw3⟩ : ∃ w3, w2.alloc (.cells #[.int .i64 j3, .int .i64 j4, .int .i64 j1, .int .i64 j2] 71) = w3 := ⟨_, rfl⟩
      rw [hw3]
      have hb3 : Below w2.heap.size w2 w3 := by rw [← hw3]; exact (Below.refl _ _).alloc (Nat.le_refl _) _
      have hY3 : Has w3 w2.heap.size 71 #[.int .i64 j3, .int .i64 j4, .int .i64 j1, .int .i64 j2] := by rw [← hw3]; exact Has.made _ _ _
      have HY3 := Lib.hid hY3
      have HX3 := Lib.hid (HS2.out.2.2.under hb3 HS2.out.2.2.lt)
      have H03 := Lib.hid (HS2.out.1.under hb3 HS2.out.1.lt)
      have HB3 := Lib.hid (HS2.out.2.1.trans (hb3.mono HS2.out.2.1.size))
      obtain ⟨gy, hgy⟩ : ∃ g, w2.heap.size = g := ⟨_, rfl⟩
      rw [hgy] at HY3
      simp only [hgy]
      clear hw3 hb3 hY3 hgy e0 e1 e2 e3 HS2
      go_wp2_with (first | (with_reducible refine wpList_load_row (o := ⟨some 23, _, _, _, _, _⟩) rfl 27 _ rfl (w.heap.size) rfl 27 (tpC t a) (0, 0) _ (H03.out).raw11 Try.underlying27 rfl (by kernel_rfl) ?_) | (with_reducible refine wpList_load_row (o := ⟨some 24, _, _, _, _, _⟩) rfl 71 _ rfl (gx) rfl 71 #[.int .i64 j1, .int .i64 j2, .int .i64 j3, .int .i64 j4] (0, 0) _ (HX3.out).raw11 Try.underlying71 rfl (by kernel_rfl) ?_))
      refine (HCN.out _).mono ?_
      rintro e w4 ⟨rfl, hb4⟩
      have HX4 := Lib.hid (HX3.out.under hb4 HX3.out.lt)
      have HY4 := Lib.hid (HY3.out.under hb4 HY3.out.lt)
      have HB4 := Lib.hid (HB3.out.trans (hb4.mono HB3.out.size))
      have e0 : w4.cell? ⟨gx, 0, none⟩ = some (.int .i64 j1) := HX4.out.cell 0
      have e1 : w4.cell? ⟨gx, 1, none⟩ = some (.int .i64 j2) := HX4.out.cell 1
      have e2 : w4.cell? ⟨gx, 2, none⟩ = some (.int .i64 j3) := HX4.out.cell 2
      have e3 : w4.cell? ⟨gx, 3, none⟩ = some (.int .i64 j4) := HX4.out.cell 3
      clear hb4 HX3 HY3 HB3 H03 HCN
      cases cn with
      | false =>
        go_wp2
        go_ret
        exact ⟨rfl, HBA.out _ HB4.out⟩
      | true =>
        cases eq with
        | true =>
          go_wp2
          go_ret
          exact ⟨rfl, HBA.out _ HB4.out⟩
        | false =>
          have HOA := Lib.hid (HOC1.out w4 (HBA.out _ HB4.out))
          go_upto_region 5 with fail
          clear e0 e1 e2 e3 q1
          go_wp2_with (with_reducible refine wpList_load_row (o := ⟨some 36, _, _, _, _, _⟩) rfl 71 _ rfl (gx) rfl 71 #[.int .i64 j1, .int .i64 j2, .int .i64 j3, .int .i64 j4] (0, 0) _ (HX4.out).raw11 Try.underlying71 rfl (by kernel_rfl) ?_)
          refine HOA.out.mono ?_
          rintro e w5 ⟨rfl, hb5⟩
          have HB5 := Lib.hid (HB4.out.trans (hb5.mono HB4.out.size))
          have HY5 := Lib.hid (HY4.out.under hb5 HY4.out.lt)
          clear hb5 HOA HX4
          cases k1 with
          | true =>
            go_wp2
            go_ret
            exact ⟨rfl, HBA.out _ HB5.out⟩
          | false =>
            have HOB := Lib.hid (HOC2.out w5 (HBA.out _ HB5.out))
            go_wp2_with ((with_reducible refine at_slot11 40 ?_); refine wpList_load_rowW11 (o := ⟨some 40, _, _, _, _, _⟩) 71 _ rfl (by kernel_rfl) (gy) rfl 71 #[.int .i64 j3, .int .i64 j4, .int .i64 j1, .int .i64 j2] (0, 0) _ (HY5.out).raw11 Try.underlying71 rfl (by kernel_rfl) ?_)
            refine HOB.out.mono ?_
            rintro e w6 ⟨rfl, hb6⟩
            have HB6 := Lib.hid (HB5.out.trans (hb6.mono HB5.out.size))
            clear hb6 HOB HY5
            cases k2 with
            | true =>
              go_wp2
              go_ret
              exact ⟨rfl, HBA.out _ HB6.out⟩
            | false =>
              go_wp2
              go_ret
              exact ⟨rfl, HBA.out _ HB6.out⟩
    exact AllReadyH.nil
  exact AllReadyH.nil

end Go.Proofs.Yteioefgckigbcaa

/-
  package topo as landed: checkBal.
-/
namespace Go.Proofs.Yteioefgckigbcaa

open Go.RowKit

open Go.Great

theorem otwithin_b (n a b : Int) (w : World) : Calls Try.prog 31 #[.int .i64 n, .int .i64 a, .int .i64 b] w fun e w' => e = .returned (.bool (withinB n a b)) ∧ Below w.heap.size w w' :=
  (otwithin_any n a b w).mono fun _ _ ⟨h1, h2⟩ => ⟨h1, by rw [h2]; exact Below.refl _ _⟩
theorem idx_take {α : Type} {p : α → Bool} {l : List α} {k : Nat} {x : α} (hx : l[k]? = some x) (hp : p x = true) : decide (idxL p l < (k : Int)) = (l.take k).any p := by
  unfold idxL
  rcases idxA_spec p l 0 with ⟨_, h2⟩ | ⟨j, y, h1, h2, h3, h4⟩
  · rw [h2 k x hx] at hp; cases hp
  · rw [h4, Bool.eq_iff_iff, decide_eq_true_eq, List.any_eq_true]
    constructor
    · intro h
      exact ⟨y, List.mem_of_getElem? (i := j) (by rw [List.getElem?_take_of_lt (by omega)]; exact h1), h2⟩
    · rintro ⟨z, hz, e⟩
      obtain ⟨m, hm, rfl⟩ := List.getElem_of_mem hz
      rw [List.length_take] at hm
      rw [List.getElem_take] at e
      have : ¬ m < j := fun hmj => by
        rw [h3 m _ hmj (List.getElem?_eq_getElem (by omega))] at e
        cases e
      omega
theorem balE_w {t : Tp3} {i : Nat} {b : Bl3} (h : t.bals[i]? = some b) : balE t i = if ((withinB b.id 0 16777214 && edgeB t b.edge) && withinB b.at_ 0 (t.edges.getD b.edge.toNat 0)) = true then (if ((t.bals.take i).any fun x => x.id == b.id) = true then 5 else 0) else 1 := by
  rw [balE_at h]
  unfold withinB
  simp only [Bool.and_assoc]

set_option maxRecDepth 100000 in
set_option maxHeartbeats 8000000 in
theorem otcb_any (t : Tp3) (a : TpA) (i : Nat) (b : Bl3) (w : World) (ht : TopR w t a) (hl : t.edges.length ≤ 100) (hbl : t.bals.length ≤ 100) (hb : t.bals[i]? = some b) :
    Calls Try.prog 33 #[.agg (tpC t a), .int .i64 i] w fun e w' => e = .returned (.int .i64 (balE t i)) ∧ Below w.heap.size w w' := by
  obtain ⟨wa, hwa⟩ : ∃ wa, w.alloc (.cells (tpC t a) 27) = wa := ⟨_, rfl⟩
  have hbwa : Below w.heap.size w wa := by rw [← hwa]; exact (Below.refl _ _).alloc (Nat.le_refl _) _
  have h0 : Has wa (w.heap.size) 27 (tpC t a) := by rw [← hwa]; exact (Has.made _ _ _)
  have HWA := Lib.hid hwa; have HBWA := Lib.hid hbwa
  have hil := (List.getElem?_eq_some_iff.1 hb).1
  rw [balE_w hb]
  have hix := idx_take (p := fun y : Bl3 => y.id == b.id) hb (by simp)
  have HFB := Lib.hid (fun W (hW : Below w.heap.size w W) => otfindbal_any t a b.id W (ht.under hW) (by omega))
  have HW1 := Lib.hid (fun W => otwithin_b b.id 0 16777214 W)
  have HED := Lib.hid (fun W => otedge_any t a b.edge W hl)
  have HW3 := Lib.hid (fun W => otwithin_b b.at_ 0 (t.edges.getD b.edge.toNat 0) W)
  obtain ⟨nb, hnb⟩ : ∃ n, t.bals.length = n := ⟨_, rfl⟩
  obtain ⟨AB, hAB⟩ : ∃ A, a.ab = A := ⟨_, rfl⟩
  have hbs : SlO blC 3 wa AB nb a.cb t.bals := by rw [← hAB, ← hnb]; exact (ht.under hbwa).b
  obtain ⟨bk, off, rfl, d0, d1, d2⟩ := hbs.bal hb
  have c2 : wa.cell? ⟨w.heap.size, 2, none⟩ = some (.slice (some ⟨bk, off, none⟩) nb a.cb) := by rw [← hnb, ← hAB]; exact h0.cell 2
  have HBA := Lib.hid (fun W (hW : Below wa.heap.size wa W) => hbwa.trans (hW.mono hbwa.size))
  have HH0 := Lib.hid h0
  have HT := Lib.hid ht
  have y0 : (0 : Int) ≤ i := by omega
  have y1 : (i : Int) < nb := by omega
  have HBX := Lib.hid (show edgeB t b.edge = true → 0 ≤ b.edge ∧ b.edge < t.edges.length from fun h => by unfold edgeB at h; simpa using h)
  obtain ⟨R, hR⟩ : ∃ R, idxL (fun y : Bl3 => y.id == b.id) t.bals = R := ⟨_, rfl⟩
  rw [hR] at hix HFB
  obtain ⟨kk, hkk⟩ : ∃ x, ((t.bals.take i).any fun y : Bl3 => y.id == b.id) = x := ⟨_, rfl⟩
  rw [hkk] at hix
  have HIX := Lib.hid hix
  obtain ⟨b1, hb1⟩ : ∃ x, withinB b.id 0 16777214 = x := ⟨_, rfl⟩
  obtain ⟨b2, hb2⟩ : ∃ x, edgeB t b.edge = x := ⟨_, rfl⟩
  obtain ⟨q, hq⟩ : ∃ x, t.edges.getD b.edge.toNat 0 = x := ⟨_, rfl⟩
  rw [hq] at HW3
  obtain ⟨b3, hb3⟩ : ∃ x, withinB b.at_ 0 q = x := ⟨_, rfl⟩
  rw [hkk, hb1, hb2, hq, hb3]
  rw [hb1] at HW1
  rw [hb2] at HED HBX
  rw [hb3] at HW3
  have HQ := Lib.hid hq
  clear hwa hbwa h0 ht hl hbl hb hbs hil hnb hAB hix hR hkk hb1 hb2 hb3 hq
  obtain ⟨bi, be, ba⟩ := b
  dsimp only at *
  go_enter Try.func33, Try.ntmps33
  go_upto_region 1 with fail
  rw [HWA.out]
  clear HWA
  go_upto_region 2 with fail
  obtain ⟨wb, hwb⟩ : ∃ wb, wa.alloc (.cells #[.int .i64 bi, .int .i64 be, .int .i64 ba] 73) = wb := ⟨_, rfl⟩
  rw [hwb]
  have hbb : Below wa.heap.size wa wb := by rw [← hwb]; exact (Below.refl _ _).alloc (Nat.le_refl _) _
  have hX : Has wb wa.heap.size 73 #[.int .i64 bi, .int .i64 be, .int .i64 ba] := by rw [← hwb]; exact Has.made _ _ _
  have HB0 := Lib.hid (HH0.out.under hbb HH0.out.lt)
  have HBB := Lib.hid hbb
  obtain ⟨gb, hgb⟩ : ∃ g, wa.heap.size = g := ⟨_, rfl⟩
  rw [hgb] at hX
  simp only [hgb]
  have HX := Lib.hid hX
  have HCE : Hid (∀ W, Below wa.heap.size wa W → W.cell? ⟨w.heap.size, 0, none⟩ = some (.slice a.ae t.edges.length a.ce)) := Lib.hid fun W hW => by
    have c_ : wa.cell? ⟨w.heap.size, 0, none⟩ = some (.slice a.ae t.edges.length a.ce) := HH0.out.cell 0
    exact (hW.cell (cell_block c_)).trans c_
  clear hwb hbb hX hgb d0 d1 d2 c2 HH0
  cases b1 with
  | false =>
    refine wp_region_held_drew (S := (fun W_ => Has W_ (gb) 73 #[.int .i64 bi, .int .i64 be, .int .i64 ba] ∧ Has W_ (w.heap.size) 27 (tpC t a) ∧ Below wb.heap.size wb W_)) (by kernel_rfl) ?_ (fun hHeld => ?_)
    · exact ⟨HX.out.draw, HB0.out.draw, below_dr11 (Below.refl _ _)⟩
    refine wpAnyH_take (i := 0) (oi := ⟨some 12, _, _, _, _, _⟩) (v := ?_) rfl (by kernel_rfl) (by kernel_rfl) (by kernel_rfl) (fun _ _ _ h => h) (Or.inl ⟨by rfl, ?_⟩) (by assumption) ?_
    rotate_left
    · intro w_ hSw; (try dsimp only at hSw); go_simp <;> with_reducible rfl
    simp only [Act.put, List.setIfInBounds_toArray, List.set_cons_zero, List.set_cons_succ]
    refine wpAnyH_take (i := 1) (oi := ⟨some 13, _, _, _, _, _⟩) (v := ?_) rfl (by kernel_rfl) (by kernel_rfl) (by kernel_rfl) (fun _ _ _ h => h) (Or.inl ⟨by rfl, ?_⟩) (by assumption) ?_
    rotate_left
    · intro w_ hSw; (try dsimp only at hSw); have z0_ : w_.cell? ⟨gb, 0, none⟩ = some (.int .i64 bi) := hSw.1.cell 0; go_simp <;> with_reducible rfl
    simp only [Act.put, List.setIfInBounds_toArray, List.set_cons_zero, List.set_cons_succ]
    refine wpAnyH_ready (rs := [2]) (by kernel_rfl) (by simp) ?_
    refine AllReadyH.cons (o := ⟨some 14, _, _, _, _, _⟩) rfl (fun K hK => ?_) ?_
    · go_simp
      obtain ⟨s0, s1, s2⟩ := hHeld
      refine (HW1.out _).mono ?_
      rintro e_ v1 ⟨rfl, hbs⟩
      go_wp2_with fail
      refine hK.out _ _ ?_ (fun hHeld => ?_)
      · exact ⟨s0.under hbs s0.lt, s1.under hbs s1.lt, s2.trans (hbs.mono s2.size)⟩
      clear hK K s0 s1 s2
      try simp only [Act.put, List.setIfInBounds_toArray, List.set_cons_zero, List.set_cons_succ]
      refine wpAnyH_take (i := 3) (oi := ⟨some 15, _, _, _, _, _⟩) (v := ?_) rfl (by kernel_rfl) (by kernel_rfl) (by kernel_rfl) (fun _ _ _ h => h) (Or.inl ⟨by rfl, ?_⟩) (by assumption) ?_
      rotate_left
      · intro w_ hSw; (try dsimp only at hSw); go_simp <;> with_reducible rfl
      simp only [Act.put, List.setIfInBounds_toArray, List.set_cons_zero, List.set_cons_succ]
      refine wpAnyH_take (i := 4) (oi := ⟨some 16, _, _, _, _, _⟩) (v := ?_) rfl (by kernel_rfl) (by kernel_rfl) (by kernel_rfl) (fun _ _ _ h => h) (Or.inl ⟨by rfl, ?_⟩) (by assumption) ?_
      rotate_left
      · intro w_ hSw; (try dsimp only at hSw); go_simp <;> with_reducible rfl
      simp only [Act.put, List.setIfInBounds_toArray, List.set_cons_zero, List.set_cons_succ]
      refine wpAnyH_take (i := 5) (oi := ⟨some 17, _, _, _, _, _⟩) (v := undef) rfl (by kernel_rfl) (by kernel_rfl) (by kernel_rfl) (fun _ _ _ h => h) (Or.inr ⟨by rfl, rfl⟩) (by assumption) ?_
      simp only [Act.put, List.setIfInBounds_toArray, List.set_cons_zero, List.set_cons_succ]
      refine wpAnyH_take (i := 6) (oi := ⟨some 18, _, _, _, _, _⟩) (v := undef) rfl (by kernel_rfl) (by kernel_rfl) (by kernel_rfl) (fun _ _ _ h => h) (Or.inr ⟨by rfl, rfl⟩) (by assumption) ?_
      simp only [Act.put, List.setIfInBounds_toArray, List.set_cons_zero, List.set_cons_succ]
      refine wpAnyH_take (i := 7) (oi := ⟨some 19, _, _, _, _, _⟩) (v := undef) rfl (by kernel_rfl) (by kernel_rfl) (by kernel_rfl) (fun _ _ _ h => h) (Or.inr ⟨by rfl, rfl⟩) (by assumption) ?_
      simp only [Act.put, List.setIfInBounds_toArray, List.set_cons_zero, List.set_cons_succ]
      refine wpAnyH_take (i := 8) (oi := ⟨some 20, _, _, _, _, _⟩) (v := undef) rfl (by kernel_rfl) (by kernel_rfl) (by kernel_rfl) (fun _ _ _ h => h) (Or.inr ⟨by rfl, rfl⟩) (by assumption) ?_
      simp only [Act.put, List.setIfInBounds_toArray, List.set_cons_zero, List.set_cons_succ]
      refine wpAnyH_take (i := 9) (oi := ⟨some 21, _, _, _, _, _⟩) (v := undef) rfl (by kernel_rfl) (by kernel_rfl) (by kernel_rfl) (fun _ _ _ h => h) (Or.inr ⟨by rfl, rfl⟩) (by assumption) ?_
      simp only [Act.put, List.setIfInBounds_toArray, List.set_cons_zero, List.set_cons_succ]
      refine wpAnyH_take (i := 10) (oi := ⟨some 22, _, _, _, _, _⟩) (v := ?_) rfl (by kernel_rfl) (by kernel_rfl) (by kernel_rfl) (fun _ _ _ h => h) (Or.inl ⟨by rfl, ?_⟩) (by assumption) ?_
      rotate_left
      · intro w_ hSw; (try dsimp only at hSw); go_simp <;> with_reducible rfl
      simp only [Act.put, List.setIfInBounds_toArray, List.set_cons_zero, List.set_cons_succ]
      refine wpAnyH_take (i := 11) (oi := ⟨some 23, _, _, _, _, _⟩) (v := ?_) rfl (by kernel_rfl) (by kernel_rfl) (by kernel_rfl) (fun _ _ _ h => h) (Or.inl ⟨by rfl, ?_⟩) (by assumption) ?_
      rotate_left
      · intro w_ hSw; (try dsimp only at hSw); go_simp <;> with_reducible rfl
      simp only [Act.put, List.setIfInBounds_toArray, List.set_cons_zero, List.set_cons_succ]
      refine wpAnyH_take (i := 12) (oi := ⟨some 24, _, _, _, _, _⟩) (v := undef) rfl (by kernel_rfl) (by kernel_rfl) (by kernel_rfl) (fun _ _ _ h => h) (Or.inr ⟨by rfl, rfl⟩) (by assumption) ?_
      simp only [Act.put, List.setIfInBounds_toArray, List.set_cons_zero, List.set_cons_succ]
      refine wpAnyH_take (i := 13) (oi := ⟨some 25, _, _, _, _, _⟩) (v := undef) rfl (by kernel_rfl) (by kernel_rfl) (by kernel_rfl) (fun _ _ _ h => h) (Or.inr ⟨by rfl, rfl⟩) (by assumption) ?_
      simp only [Act.put, List.setIfInBounds_toArray, List.set_cons_zero, List.set_cons_succ]
      refine wpAnyH_take (i := 14) (oi := ⟨some 26, _, _, _, _, _⟩) (v := undef) rfl (by kernel_rfl) (by kernel_rfl) (by kernel_rfl) (fun _ _ _ h => h) (Or.inr ⟨by rfl, rfl⟩) (by assumption) ?_
      simp only [Act.put, List.setIfInBounds_toArray, List.set_cons_zero, List.set_cons_succ]
      refine wpAnyH_take (i := 15) (oi := ⟨some 27, _, _, _, _, _⟩) (v := undef) rfl (by kernel_rfl) (by kernel_rfl) (by kernel_rfl) (fun _ _ _ h => h) (Or.inr ⟨by rfl, rfl⟩) (by assumption) ?_
      simp only [Act.put, List.setIfInBounds_toArray, List.set_cons_zero, List.set_cons_succ]
      refine wpAnyH_take (i := 16) (oi := ⟨some 28, _, _, _, _, _⟩) (v := undef) rfl (by kernel_rfl) (by kernel_rfl) (by kernel_rfl) (fun _ _ _ h => h) (Or.inr ⟨by rfl, rfl⟩) (by assumption) ?_
      simp only [Act.put, List.setIfInBounds_toArray, List.set_cons_zero, List.set_cons_succ]
      refine wpAnyH_take (i := 17) (oi := ⟨some 29, _, _, _, _, _⟩) (v := undef) rfl (by kernel_rfl) (by kernel_rfl) (by kernel_rfl) (fun _ _ _ h => h) (Or.inr ⟨by rfl, rfl⟩) (by assumption) ?_
      simp only [Act.put, List.setIfInBounds_toArray, List.set_cons_zero, List.set_cons_succ]
      refine wpAnyH_take (i := 18) (oi := ⟨some 30, _, _, _, _, _⟩) (v := undef) rfl (by kernel_rfl) (by kernel_rfl) (by kernel_rfl) (fun _ _ _ h => h) (Or.inr ⟨by rfl, rfl⟩) (by assumption) ?_
      simp only [Act.put, List.setIfInBounds_toArray, List.set_cons_zero, List.set_cons_succ]
      refine wpAnyH_take (i := 19) (oi := ⟨some 31, _, _, _, _, _⟩) (v := undef) rfl (by kernel_rfl) (by kernel_rfl) (by kernel_rfl) (fun _ _ _ h => h) (Or.inr ⟨by rfl, rfl⟩) (by assumption) ?_
      simp only [Act.put, List.setIfInBounds_toArray, List.set_cons_zero, List.set_cons_succ]
      refine wpAnyH_take (i := 20) (oi := ⟨some 32, _, _, _, _, _⟩) (v := undef) rfl (by kernel_rfl) (by kernel_rfl) (by kernel_rfl) (fun _ _ _ h => h) (Or.inr ⟨by rfl, rfl⟩) (by assumption) ?_
      simp only [Act.put, List.setIfInBounds_toArray, List.set_cons_zero, List.set_cons_succ]
      refine wpAnyH_take (i := 21) (oi := ⟨some 33, _, _, _, _, _⟩) (v := undef) rfl (by kernel_rfl) (by kernel_rfl) (by kernel_rfl) (fun _ _ _ h => h) (Or.inr ⟨by rfl, rfl⟩) (by assumption) ?_
      simp only [Act.put, List.setIfInBounds_toArray, List.set_cons_zero, List.set_cons_succ]
      refine wpAnyH_take (i := 22) (oi := ⟨some 34, _, _, _, _, _⟩) (v := ?_) rfl (by kernel_rfl) (by kernel_rfl) (by kernel_rfl) (fun _ _ _ h => h) (Or.inl ⟨by rfl, ?_⟩) (by assumption) ?_
      rotate_left
      · intro w_ hSw; (try dsimp only at hSw); go_simp <;> with_reducible rfl
      simp only [Act.put, List.setIfInBounds_toArray, List.set_cons_zero, List.set_cons_succ]
      refine wpAnyH_take (i := 23) (oi := ⟨some 11, _, _, _, _, _⟩) (v := ?_) rfl (by kernel_rfl) (by kernel_rfl) (by kernel_rfl) (fun _ _ _ h => h) (Or.inl ⟨by rfl, ?_⟩) (by assumption) ?_
      rotate_left
      · intro w_ hSw; (try dsimp only at hSw); go_simp <;> with_reducible rfl
      simp only [Act.put, List.setIfInBounds_toArray, List.set_cons_zero, List.set_cons_succ]
      refine wpAnyH_done (by kernel_rfl) ?_ _
      have HE := Lib.hid (HBA.out _ (HBB.out.trans (hHeld.2.2.mono HBB.out.size)))
      clear hHeld
      go_wp2
      go_ret
      exact ⟨rfl, HE.out⟩
    exact AllReadyH.nil
  | true =>
    cases b2 with
    | false =>
      refine wp_region_held_drew (S := (fun W_ => Has W_ (gb) 73 #[.int .i64 bi, .int .i64 be, .int .i64 ba] ∧ Has W_ (w.heap.size) 27 (tpC t a) ∧ Below wb.heap.size wb W_)) (by kernel_rfl) ?_ (fun hHeld => ?_)
      · exact ⟨HX.out.draw, HB0.out.draw, below_dr11 (Below.refl _ _)⟩
      refine wpAnyH_take (i := 0) (oi := ⟨some 12, _, _, _, _, _⟩) (v := ?_) rfl (by kernel_rfl) (by kernel_rfl) (by kernel_rfl) (fun _ _ _ h => h) (Or.inl ⟨by rfl, ?_⟩) (by assumption) ?_
      rotate_left
      · intro w_ hSw; (try dsimp only at hSw); go_simp <;> with_reducible rfl
      simp only [Act.put, List.setIfInBounds_toArray, List.set_cons_zero, List.set_cons_succ]
      refine wpAnyH_take (i := 1) (oi := ⟨some 13, _, _, _, _, _⟩) (v := ?_) rfl (by kernel_rfl) (by kernel_rfl) (by kernel_rfl) (fun _ _ _ h => h) (Or.inl ⟨by rfl, ?_⟩) (by assumption) ?_
      rotate_left
      · intro w_ hSw; (try dsimp only at hSw); have z0_ : w_.cell? ⟨gb, 0, none⟩ = some (.int .i64 bi) := hSw.1.cell 0; go_simp <;> with_reducible rfl
      simp only [Act.put, List.setIfInBounds_toArray, List.set_cons_zero, List.set_cons_succ]
      refine wpAnyH_ready (rs := [2]) (by kernel_rfl) (by simp) ?_
      refine AllReadyH.cons (o := ⟨some 14, _, _, _, _, _⟩) rfl (fun K hK => ?_) ?_
      · go_simp
        obtain ⟨s0, s1, s2⟩ := hHeld
        refine (HW1.out _).mono ?_
        rintro e_ v1 ⟨rfl, hbs⟩
        go_wp2_with fail
        refine hK.out _ _ ?_ (fun hHeld => ?_)
        · exact ⟨s0.under hbs s0.lt, s1.under hbs s1.lt, s2.trans (hbs.mono s2.size)⟩
        clear hK K s0 s1 s2
        try simp only [Act.put, List.setIfInBounds_toArray, List.set_cons_zero, List.set_cons_succ]
        refine wpAnyH_take (i := 3) (oi := ⟨some 15, _, _, _, _, _⟩) (v := ?_) rfl (by kernel_rfl) (by kernel_rfl) (by kernel_rfl) (fun _ _ _ h => h) (Or.inl ⟨by rfl, ?_⟩) (by assumption) ?_
        rotate_left
        · intro w_ hSw; (try dsimp only at hSw); go_simp <;> with_reducible rfl
        simp only [Act.put, List.setIfInBounds_toArray, List.set_cons_zero, List.set_cons_succ]
        refine wpAnyH_take (i := 4) (oi := ⟨some 16, _, _, _, _, _⟩) (v := ?_) rfl (by kernel_rfl) (by kernel_rfl) (by kernel_rfl) (fun _ _ _ h => h) (Or.inl ⟨by rfl, ?_⟩) (by assumption) ?_
        rotate_left
        · intro w_ hSw; (try dsimp only at hSw); go_simp <;> with_reducible rfl
        simp only [Act.put, List.setIfInBounds_toArray, List.set_cons_zero, List.set_cons_succ]
        refine wpAnyH_take (i := 5) (oi := ⟨some 17, _, _, _, _, _⟩) (v := .agg (tpC t a)) rfl (by kernel_rfl) (by kernel_rfl) (by kernel_rfl) (fun _ _ _ h => h) (yields_load_row11 27 _ rfl (w.heap.size) rfl 27 (tpC t a) _ (fun _ ⟨_, h_, _⟩ => h_) Try.underlying27 rfl (by kernel_rfl) (by rfl)) (by assumption) ?_
        simp only [Act.put, List.setIfInBounds_toArray, List.set_cons_zero, List.set_cons_succ]
        refine wpAnyH_take (i := 6) (oi := ⟨some 18, _, _, _, _, _⟩) (v := ?_) rfl (by kernel_rfl) (by kernel_rfl) (by kernel_rfl) (fun _ _ _ h => h) (Or.inl ⟨by rfl, ?_⟩) (by assumption) ?_
        rotate_left
        · intro w_ hSw; (try dsimp only at hSw); go_simp <;> with_reducible rfl
        simp only [Act.put, List.setIfInBounds_toArray, List.set_cons_zero, List.set_cons_succ]
        refine wpAnyH_take (i := 7) (oi := ⟨some 19, _, _, _, _, _⟩) (v := ?_) rfl (by kernel_rfl) (by kernel_rfl) (by kernel_rfl) (fun _ _ _ h => h) (Or.inl ⟨by rfl, ?_⟩) (by assumption) ?_
        rotate_left
        · intro w_ hSw; (try dsimp only at hSw); have z1_ : w_.cell? ⟨gb, 1, none⟩ = some (.int .i64 be) := hSw.1.cell 1; go_simp <;> with_reducible rfl
        simp only [Act.put, List.setIfInBounds_toArray, List.set_cons_zero, List.set_cons_succ]
        refine wpAnyH_ready (rs := [8]) (by kernel_rfl) (by simp) ?_
        refine AllReadyH.cons (o := ⟨some 20, _, _, _, _, _⟩) rfl (fun K hK => ?_) ?_
        · go_simp
          obtain ⟨s0, s1, s2⟩ := hHeld
          refine (HED.out _).mono ?_
          rintro e_ v2 ⟨rfl, hbs⟩
          go_wp2_with fail
          refine hK.out _ _ ?_ (fun hHeld => ?_)
          · exact ⟨s0.under hbs s0.lt, s1.under hbs s1.lt, s2.trans (hbs.mono s2.size)⟩
          clear hK K s0 s1 s2
          try simp only [Act.put, List.setIfInBounds_toArray, List.set_cons_zero, List.set_cons_succ]
          refine wpAnyH_take (i := 9) (oi := ⟨some 21, _, _, _, _, _⟩) (v := ?_) rfl (by kernel_rfl) (by kernel_rfl) (by kernel_rfl) (fun _ _ _ h => h) (Or.inl ⟨by rfl, ?_⟩) (by assumption) ?_
          rotate_left
          · intro w_ hSw; (try dsimp only at hSw); go_simp <;> with_reducible rfl
          simp only [Act.put, List.setIfInBounds_toArray, List.set_cons_zero, List.set_cons_succ]
          refine wpAnyH_take (i := 10) (oi := ⟨some 22, _, _, _, _, _⟩) (v := ?_) rfl (by kernel_rfl) (by kernel_rfl) (by kernel_rfl) (fun _ _ _ h => h) (Or.inl ⟨by rfl, ?_⟩) (by assumption) ?_
          rotate_left
          · intro w_ hSw; (try dsimp only at hSw); go_simp <;> with_reducible rfl
          simp only [Act.put, List.setIfInBounds_toArray, List.set_cons_zero, List.set_cons_succ]
          refine wpAnyH_take (i := 11) (oi := ⟨some 23, _, _, _, _, _⟩) (v := ?_) rfl (by kernel_rfl) (by kernel_rfl) (by kernel_rfl) (fun _ _ _ h => h) (Or.inl ⟨by rfl, ?_⟩) (by assumption) ?_
          rotate_left
          · intro w_ hSw; (try dsimp only at hSw); go_simp <;> with_reducible rfl
          simp only [Act.put, List.setIfInBounds_toArray, List.set_cons_zero, List.set_cons_succ]
          refine wpAnyH_take (i := 12) (oi := ⟨some 24, _, _, _, _, _⟩) (v := undef) rfl (by kernel_rfl) (by kernel_rfl) (by kernel_rfl) (fun _ _ _ h => h) (Or.inr ⟨by rfl, rfl⟩) (by assumption) ?_
          simp only [Act.put, List.setIfInBounds_toArray, List.set_cons_zero, List.set_cons_succ]
          refine wpAnyH_take (i := 13) (oi := ⟨some 25, _, _, _, _, _⟩) (v := undef) rfl (by kernel_rfl) (by kernel_rfl) (by kernel_rfl) (fun _ _ _ h => h) (Or.inr ⟨by rfl, rfl⟩) (by assumption) ?_
          simp only [Act.put, List.setIfInBounds_toArray, List.set_cons_zero, List.set_cons_succ]
          refine wpAnyH_take (i := 14) (oi := ⟨some 26, _, _, _, _, _⟩) (v := undef) rfl (by kernel_rfl) (by kernel_rfl) (by kernel_rfl) (fun _ _ _ h => h) (Or.inr ⟨by rfl, rfl⟩) (by assumption) ?_
          simp only [Act.put, List.setIfInBounds_toArray, List.set_cons_zero, List.set_cons_succ]
          refine wpAnyH_take (i := 15) (oi := ⟨some 27, _, _, _, _, _⟩) (v := undef) rfl (by kernel_rfl) (by kernel_rfl) (by kernel_rfl) (fun _ _ _ h => h) (Or.inr ⟨by rfl, rfl⟩) (by assumption) ?_
          simp only [Act.put, List.setIfInBounds_toArray, List.set_cons_zero, List.set_cons_succ]
          refine wpAnyH_take (i := 16) (oi := ⟨some 28, _, _, _, _, _⟩) (v := undef) rfl (by kernel_rfl) (by kernel_rfl) (by kernel_rfl) (fun _ _ _ h => h) (Or.inr ⟨by rfl, rfl⟩) (by assumption) ?_
          simp only [Act.put, List.setIfInBounds_toArray, List.set_cons_zero, List.set_cons_succ]
          refine wpAnyH_take (i := 17) (oi := ⟨some 29, _, _, _, _, _⟩) (v := undef) rfl (by kernel_rfl) (by kernel_rfl) (by kernel_rfl) (fun _ _ _ h => h) (Or.inr ⟨by rfl, rfl⟩) (by assumption) ?_
          simp only [Act.put, List.setIfInBounds_toArray, List.set_cons_zero, List.set_cons_succ]
          refine wpAnyH_take (i := 18) (oi := ⟨some 30, _, _, _, _, _⟩) (v := undef) rfl (by kernel_rfl) (by kernel_rfl) (by kernel_rfl) (fun _ _ _ h => h) (Or.inr ⟨by rfl, rfl⟩) (by assumption) ?_
          simp only [Act.put, List.setIfInBounds_toArray, List.set_cons_zero, List.set_cons_succ]
          refine wpAnyH_take (i := 19) (oi := ⟨some 31, _, _, _, _, _⟩) (v := undef) rfl (by kernel_rfl) (by kernel_rfl) (by kernel_rfl) (fun _ _ _ h => h) (Or.inr ⟨by rfl, rfl⟩) (by assumption) ?_
          simp only [Act.put, List.setIfInBounds_toArray, List.set_cons_zero, List.set_cons_succ]
          refine wpAnyH_take (i := 20) (oi := ⟨some 32, _, _, _, _, _⟩) (v := undef) rfl (by kernel_rfl) (by kernel_rfl) (by kernel_rfl) (fun _ _ _ h => h) (Or.inr ⟨by rfl, rfl⟩) (by assumption) ?_
          simp only [Act.put, List.setIfInBounds_toArray, List.set_cons_zero, List.set_cons_succ]
          refine wpAnyH_take (i := 21) (oi := ⟨some 33, _, _, _, _, _⟩) (v := undef) rfl (by kernel_rfl) (by kernel_rfl) (by kernel_rfl) (fun _ _ _ h => h) (Or.inr ⟨by rfl, rfl⟩) (by assumption) ?_
          simp only [Act.put, List.setIfInBounds_toArray, List.set_cons_zero, List.set_cons_succ]
          refine wpAnyH_take (i := 22) (oi := ⟨some 34, _, _, _, _, _⟩) (v := ?_) rfl (by kernel_rfl) (by kernel_rfl) (by kernel_rfl) (fun _ _ _ h => h) (Or.inl ⟨by rfl, ?_⟩) (by assumption) ?_
          rotate_left
          · intro w_ hSw; (try dsimp only at hSw); go_simp <;> with_reducible rfl
          simp only [Act.put, List.setIfInBounds_toArray, List.set_cons_zero, List.set_cons_succ]
          refine wpAnyH_take (i := 23) (oi := ⟨some 11, _, _, _, _, _⟩) (v := ?_) rfl (by kernel_rfl) (by kernel_rfl) (by kernel_rfl) (fun _ _ _ h => h) (Or.inl ⟨by rfl, ?_⟩) (by assumption) ?_
          rotate_left
          · intro w_ hSw; (try dsimp only at hSw); go_simp <;> with_reducible rfl
          simp only [Act.put, List.setIfInBounds_toArray, List.set_cons_zero, List.set_cons_succ]
          refine wpAnyH_done (by kernel_rfl) ?_ _
          have HE := Lib.hid (HBA.out _ (HBB.out.trans (hHeld.2.2.mono HBB.out.size)))
          clear hHeld
          go_wp2
          go_ret
          exact ⟨rfl, HE.out⟩
        exact AllReadyH.nil
      exact AllReadyH.nil
    | true =>
      have hed := HBX.out (by first | rfl | trivial)
      obtain ⟨en, hen⟩ : ∃ e : Nat, be = e := ⟨be.toNat, by omega⟩
      have hel : en < t.edges.length := by omega
      obtain ⟨bke, oe, hae, ce⟩ := (HT.out.under (HBA.out wa (Below.refl _ _))).e.edge hel
      have hqq : t.edges.getD en 0 = q := by rw [← HQ.out, hen]; rfl
      rw [hqq] at ce
      obtain ⟨ne, hne⟩ : ∃ n, t.edges.length = n := ⟨_, rfl⟩
      have HCE2 : Hid (∀ W, Below wa.heap.size wa W → W.cell? ⟨w.heap.size, 0, none⟩ = some (.slice (some ⟨bke, oe, none⟩) ne a.ce)) := Lib.hid fun W hW => by rw [← hae, ← hne]; exact HCE.out W hW
      have HCQ := Lib.hid (fun W (hW : Below wa.heap.size wa W) => (hW.cell (cell_block ce)).trans ce)
      have y2 : (0 : Int) ≤ en := by omega
      have y3 : (en : Int) < ne := by omega
      subst hen
      clear hed hel hae ce hqq hne HCE HBX HQ
      refine wp_region_held_drew (S := (fun W_ => Has W_ (gb) 73 #[.int .i64 bi, .int .i64 (en : Nat), .int .i64 ba] ∧ Has W_ (w.heap.size) 27 (tpC t a) ∧ Below wb.heap.size wb W_)) (by kernel_rfl) ?_ (fun hHeld => ?_)
      · exact ⟨HX.out.draw, HB0.out.draw, below_dr11 (Below.refl _ _)⟩
      refine wpAnyH_take (i := 0) (oi := ⟨some 12, _, _, _, _, _⟩) (v := ?_) rfl (by kernel_rfl) (by kernel_rfl) (by kernel_rfl) (fun _ _ _ h => h) (Or.inl ⟨by rfl, ?_⟩) (by assumption) ?_
      rotate_left
      · intro w_ hSw; (try dsimp only at hSw); go_simp <;> with_reducible rfl
      simp only [Act.put, List.setIfInBounds_toArray, List.set_cons_zero, List.set_cons_succ]
      refine wpAnyH_take (i := 1) (oi := ⟨some 13, _, _, _, _, _⟩) (v := ?_) rfl (by kernel_rfl) (by kernel_rfl) (by kernel_rfl) (fun _ _ _ h => h) (Or.inl ⟨by rfl, ?_⟩) (by assumption) ?_
      rotate_left
      · intro w_ hSw; (try dsimp only at hSw); have z0_ : w_.cell? ⟨gb, 0, none⟩ = some (.int .i64 bi) := hSw.1.cell 0; go_simp <;> with_reducible rfl
      simp only [Act.put, List.setIfInBounds_toArray, List.set_cons_zero, List.set_cons_succ]
      refine wpAnyH_ready (rs := [2]) (by kernel_rfl) (by simp) ?_
      refine AllReadyH.cons (o := ⟨some 14, _, _, _, _, _⟩) rfl (fun K hK => ?_) ?_
      · go_simp
        obtain ⟨s0, s1, s2⟩ := hHeld
        refine (HW1.out _).mono ?_
        rintro e_ v1 ⟨rfl, hbs⟩
        go_wp2_with fail
        refine hK.out _ _ ?_ (fun hHeld => ?_)
        · exact ⟨s0.under hbs s0.lt, s1.under hbs s1.lt, s2.trans (hbs.mono s2.size)⟩
        clear hK K s0 s1 s2
        try simp only [Act.put, List.setIfInBounds_toArray, List.set_cons_zero, List.set_cons_succ]
        refine wpAnyH_take (i := 3) (oi := ⟨some 15, _, _, _, _, _⟩) (v := ?_) rfl (by kernel_rfl) (by kernel_rfl) (by kernel_rfl) (fun _ _ _ h => h) (Or.inl ⟨by rfl, ?_⟩) (by assumption) ?_
        rotate_left
        · intro w_ hSw; (try dsimp only at hSw); go_simp <;> with_reducible rfl
        simp only [Act.put, List.setIfInBounds_toArray, List.set_cons_zero, List.set_cons_succ]
        refine wpAnyH_take (i := 4) (oi := ⟨some 16, _, _, _, _, _⟩) (v := ?_) rfl (by kernel_rfl) (by kernel_rfl) (by kernel_rfl) (fun _ _ _ h => h) (Or.inl ⟨by rfl, ?_⟩) (by assumption) ?_
        rotate_left
        · intro w_ hSw; (try dsimp only at hSw); go_simp <;> with_reducible rfl
        simp only [Act.put, List.setIfInBounds_toArray, List.set_cons_zero, List.set_cons_succ]
        refine wpAnyH_take (i := 5) (oi := ⟨some 17, _, _, _, _, _⟩) (v := .agg (tpC t a)) rfl (by kernel_rfl) (by kernel_rfl) (by kernel_rfl) (fun _ _ _ h => h) (yields_load_row11 27 _ rfl (w.heap.size) rfl 27 (tpC t a) _ (fun _ ⟨_, h_, _⟩ => h_) Try.underlying27 rfl (by kernel_rfl) (by rfl)) (by assumption) ?_
        simp only [Act.put, List.setIfInBounds_toArray, List.set_cons_zero, List.set_cons_succ]
        refine wpAnyH_take (i := 6) (oi := ⟨some 18, _, _, _, _, _⟩) (v := ?_) rfl (by kernel_rfl) (by kernel_rfl) (by kernel_rfl) (fun _ _ _ h => h) (Or.inl ⟨by rfl, ?_⟩) (by assumption) ?_
        rotate_left
        · intro w_ hSw; (try dsimp only at hSw); go_simp <;> with_reducible rfl
        simp only [Act.put, List.setIfInBounds_toArray, List.set_cons_zero, List.set_cons_succ]
        refine wpAnyH_take (i := 7) (oi := ⟨some 19, _, _, _, _, _⟩) (v := ?_) rfl (by kernel_rfl) (by kernel_rfl) (by kernel_rfl) (fun _ _ _ h => h) (Or.inl ⟨by rfl, ?_⟩) (by assumption) ?_
        rotate_left
        · intro w_ hSw; (try dsimp only at hSw); have z1_ : w_.cell? ⟨gb, 1, none⟩ = some (.int .i64 (en : Nat)) := hSw.1.cell 1; go_simp <;> with_reducible rfl
        simp only [Act.put, List.setIfInBounds_toArray, List.set_cons_zero, List.set_cons_succ]
        refine wpAnyH_ready (rs := [8]) (by kernel_rfl) (by simp) ?_
        refine AllReadyH.cons (o := ⟨some 20, _, _, _, _, _⟩) rfl (fun K hK => ?_) ?_
        · go_simp
          obtain ⟨s0, s1, s2⟩ := hHeld
          refine (HED.out _).mono ?_
          rintro e_ v2 ⟨rfl, hbs⟩
          go_wp2_with fail
          refine hK.out _ _ ?_ (fun hHeld => ?_)
          · exact ⟨s0.under hbs s0.lt, s1.under hbs s1.lt, s2.trans (hbs.mono s2.size)⟩
          clear hK K s0 s1 s2
          try simp only [Act.put, List.setIfInBounds_toArray, List.set_cons_zero, List.set_cons_succ]
          refine wpAnyH_take (i := 9) (oi := ⟨some 21, _, _, _, _, _⟩) (v := ?_) rfl (by kernel_rfl) (by kernel_rfl) (by kernel_rfl) (fun _ _ _ h => h) (Or.inl ⟨by rfl, ?_⟩) (by assumption) ?_
          rotate_left
          · intro w_ hSw; (try dsimp only at hSw); go_simp <;> with_reducible rfl
          simp only [Act.put, List.setIfInBounds_toArray, List.set_cons_zero, List.set_cons_succ]
          refine wpAnyH_take (i := 10) (oi := ⟨some 22, _, _, _, _, _⟩) (v := ?_) rfl (by kernel_rfl) (by kernel_rfl) (by kernel_rfl) (fun _ _ _ h => h) (Or.inl ⟨by rfl, ?_⟩) (by assumption) ?_
          rotate_left
          · intro w_ hSw; (try dsimp only at hSw); go_simp <;> with_reducible rfl
          simp only [Act.put, List.setIfInBounds_toArray, List.set_cons_zero, List.set_cons_succ]
          refine wpAnyH_take (i := 11) (oi := ⟨some 23, _, _, _, _, _⟩) (v := ?_) rfl (by kernel_rfl) (by kernel_rfl) (by kernel_rfl) (fun _ _ _ h => h) (Or.inl ⟨by rfl, ?_⟩) (by assumption) ?_
          rotate_left
          · intro w_ hSw; (try dsimp only at hSw); go_simp <;> with_reducible rfl
          simp only [Act.put, List.setIfInBounds_toArray, List.set_cons_zero, List.set_cons_succ]
          refine wpAnyH_take (i := 12) (oi := ⟨some 24, _, _, _, _, _⟩) (v := ?_) rfl (by kernel_rfl) (by kernel_rfl) (by kernel_rfl) (fun _ _ _ h => h) (Or.inl ⟨by rfl, ?_⟩) (by assumption) ?_
          rotate_left
          · intro w_ hSw; (try dsimp only at hSw); go_simp <;> with_reducible rfl
          simp only [Act.put, List.setIfInBounds_toArray, List.set_cons_zero, List.set_cons_succ]
          refine wpAnyH_take (i := 13) (oi := ⟨some 25, _, _, _, _, _⟩) (v := ?_) rfl (by kernel_rfl) (by kernel_rfl) (by kernel_rfl) (fun _ _ _ h => h) (Or.inl ⟨by rfl, ?_⟩) (by assumption) ?_
          rotate_left
          · intro w_ hSw; (try dsimp only at hSw); have z2_ : w_.cell? ⟨gb, 2, none⟩ = some (.int .i64 ba) := hSw.1.cell 2; go_simp <;> with_reducible rfl
          simp only [Act.put, List.setIfInBounds_toArray, List.set_cons_zero, List.set_cons_succ]
          refine wpAnyH_take (i := 14) (oi := ⟨some 26, _, _, _, _, _⟩) (v := ?_) rfl (by kernel_rfl) (by kernel_rfl) (by kernel_rfl) (fun _ _ _ h => h) (Or.inl ⟨by rfl, ?_⟩) (by assumption) ?_
          rotate_left
          · intro w_ hSw; (try dsimp only at hSw); go_simp <;> with_reducible rfl
          simp only [Act.put, List.setIfInBounds_toArray, List.set_cons_zero, List.set_cons_succ]
          refine wpAnyH_take (i := 15) (oi := ⟨some 27, _, _, _, _, _⟩) (v := ?_) rfl (by kernel_rfl) (by kernel_rfl) (by kernel_rfl) (fun _ _ _ h => h) (Or.inl ⟨by rfl, ?_⟩) (by assumption) ?_
          rotate_left
          · intro w_ hSw; (try dsimp only at hSw); have c0_ : w_.cell? ⟨w.heap.size, 0, none⟩ = some (.slice (some ⟨bke, oe, none⟩) ne a.ce) := HCE2.out w_ (HBB.out.trans (hSw.2.2.mono HBB.out.size)); go_simp <;> with_reducible rfl
          simp only [Act.put, List.setIfInBounds_toArray, List.set_cons_zero, List.set_cons_succ]
          refine wpAnyH_take (i := 16) (oi := ⟨some 28, _, _, _, _, _⟩) (v := ?_) rfl (by kernel_rfl) (by kernel_rfl) (by kernel_rfl) (fun _ _ _ h => h) (Or.inl ⟨by rfl, ?_⟩) (by assumption) ?_
          rotate_left
          · intro w_ hSw; (try dsimp only at hSw); go_simp <;> with_reducible rfl
          simp only [Act.put, List.setIfInBounds_toArray, List.set_cons_zero, List.set_cons_succ]
          refine wpAnyH_take (i := 17) (oi := ⟨some 29, _, _, _, _, _⟩) (v := ?_) rfl (by kernel_rfl) (by kernel_rfl) (by kernel_rfl) (fun _ _ _ h => h) (Or.inl ⟨by rfl, ?_⟩) (by assumption) ?_
          rotate_left
          · intro w_ hSw; (try dsimp only at hSw); have z1_ : w_.cell? ⟨gb, 1, none⟩ = some (.int .i64 (en : Nat)) := hSw.1.cell 1; go_simp <;> with_reducible rfl
          simp only [Act.put, List.setIfInBounds_toArray, List.set_cons_zero, List.set_cons_succ]
          refine wpAnyH_take (i := 18) (oi := ⟨some 30, _, _, _, _, _⟩) (v := ?_) rfl (by kernel_rfl) (by kernel_rfl) (by kernel_rfl) (fun _ _ _ h => h) (Or.inl ⟨by rfl, ?_⟩) (by assumption) ?_
          rotate_left
          · intro w_ hSw; (try dsimp only at hSw); go_simp <;> with_reducible rfl
          simp only [Act.put, List.setIfInBounds_toArray, List.set_cons_zero, List.set_cons_succ]
          refine wpAnyH_take (i := 19) (oi := ⟨some 31, _, _, _, _, _⟩) (v := ?_) rfl (by kernel_rfl) (by kernel_rfl) (by kernel_rfl) (fun _ _ _ h => h) (Or.inl ⟨by rfl, ?_⟩) (by assumption) ?_
          rotate_left
          · intro w_ hSw; (try dsimp only at hSw); have ce_ := HCQ.out w_ (HBB.out.trans (hSw.2.2.mono HBB.out.size)); go_simp <;> with_reducible rfl
          simp only [Act.put, List.setIfInBounds_toArray, List.set_cons_zero, List.set_cons_succ]
          refine wpAnyH_ready (rs := [20]) (by kernel_rfl) (by simp) ?_
          refine AllReadyH.cons (o := ⟨some 32, _, _, _, _, _⟩) rfl (fun K hK => ?_) ?_
          · go_simp
            obtain ⟨s0, s1, s2⟩ := hHeld
            refine (HW3.out _).mono ?_
            rintro e_ v3 ⟨rfl, hbs⟩
            go_wp2_with fail
            refine hK.out _ _ ?_ (fun hHeld => ?_)
            · exact ⟨s0.under hbs s0.lt, s1.under hbs s1.lt, s2.trans (hbs.mono s2.size)⟩
            clear hK K s0 s1 s2
            try simp only [Act.put, List.setIfInBounds_toArray, List.set_cons_zero, List.set_cons_succ]
            refine wpAnyH_take (i := 21) (oi := ⟨some 33, _, _, _, _, _⟩) (v := ?_) rfl (by kernel_rfl) (by kernel_rfl) (by kernel_rfl) (fun _ _ _ h => h) (Or.inl ⟨by rfl, ?_⟩) (by assumption) ?_
            rotate_left
            · intro w_ hSw; (try dsimp only at hSw); go_simp <;> with_reducible rfl
            simp only [Act.put, List.setIfInBounds_toArray, List.set_cons_zero, List.set_cons_succ]
            refine wpAnyH_take (i := 22) (oi := ⟨some 34, _, _, _, _, _⟩) (v := ?_) rfl (by kernel_rfl) (by kernel_rfl) (by kernel_rfl) (fun _ _ _ h => h) (Or.inl ⟨by rfl, ?_⟩) (by assumption) ?_
            rotate_left
            · intro w_ hSw; (try dsimp only at hSw); go_simp <;> with_reducible rfl
            simp only [Act.put, List.setIfInBounds_toArray, List.set_cons_zero, List.set_cons_succ]
            refine wpAnyH_take (i := 23) (oi := ⟨some 11, _, _, _, _, _⟩) (v := ?_) rfl (by kernel_rfl) (by kernel_rfl) (by kernel_rfl) (fun _ _ _ h => h) (Or.inl ⟨by rfl, ?_⟩) (by assumption) ?_
            rotate_left
            · intro w_ hSw; (try dsimp only at hSw); go_simp <;> with_reducible rfl
            simp only [Act.put, List.setIfInBounds_toArray, List.set_cons_zero, List.set_cons_succ]
            refine wpAnyH_done (by kernel_rfl) ?_ _
            have HS := Lib.hid hHeld
            clear hHeld y2 y3
            cases b3 with
            | false =>
              have HE := Lib.hid (HBA.out _ (HBB.out.trans (HS.out.2.2.mono HBB.out.size)))
              go_wp2
              go_ret
              exact ⟨rfl, HE.out⟩
            | true =>
              have HE := Lib.hid (HBA.out _ (HBB.out.trans (HS.out.2.2.mono HBB.out.size)))
              have z0 := HS.out.1.cell 0
              have z0' : World.cell? v3 ⟨gb, 0, none⟩ = some (.int .i64 bi) := z0
              have HF := Lib.hid (HFB.out v3 HE.out)
              go_upto_region 4 with fail
              go_wp2_with (with_reducible refine wpList_load_row (o := ⟨some 36, _, _, _, _, _⟩) rfl 27 _ rfl (w.heap.size) rfl 27 (tpC t a) (0, 0) _ (HS.out.2.1).raw11 Try.underlying27 rfl (by kernel_rfl) ?_)
              refine HF.out.mono ?_
              rintro e v4 ⟨rfl, hb4⟩
              have HB4 := Lib.hid (HE.out.trans (hb4.mono HE.out.size))
              have hlt := HIX.out
              clear hb4 HF z0 z0'
              cases kk with
              | true =>
                have hlt2 : R < (i : Int) := by simpa using hlt
                clear hlt
                go_wp2
                go_ret
                exact ⟨rfl, HB4.out⟩
              | false =>
                have hlt2 : ¬ R < (i : Int) := by simpa using hlt
                clear hlt
                go_wp2
                go_ret
                exact ⟨rfl, HB4.out⟩
          exact AllReadyH.nil
        exact AllReadyH.nil
      exact AllReadyH.nil

end Go.Proofs.Yteioefgckigbcaa

/-
  package topo as landed: checkRoute.
-/
namespace Go.Proofs.Yteioefgckigbcaa

open Go.RowKit

open Go.Great

theorem routeE_w (t : Tp3) (r : Rt3) : routeE t r = if r.id < 1 then 1 else if 8 < r.path.length then 1 else if twiceB r.path = true then 1 else if lenE t r.path = 0 then (if withinB r.gap 0 (lenN t r.path - 1) = true then (if withinB r.timer 1 1000 = true then (if (r.path.all (hasBal t)) = true then 0 else 4) else 1) else 1) else lenE t r.path := by
  unfold routeE
  by_cases h1 : r.id < 1
  · rw [if_pos (.inl h1), if_pos h1]
  · rw [if_neg h1]
    by_cases h2 : 8 < r.path.length
    · rw [if_pos (.inr (.inr h2)), if_pos h2]
    · rw [if_neg h2]
      by_cases h3 : r.path.length = 0
      · rw [if_pos (.inr (.inl h3))]
        have hp : r.path = [] := List.eq_nil_of_length_eq_zero h3
        have ht : twiceB r.path = false := by rw [hp]; rfl
        have hl : lenE t r.path = 1 := by unfold lenE; rw [if_pos (.inl h3)]
        rw [ht, if_neg (by decide), hl, if_neg (by decide)]
      · rw [if_neg (by omega)]
        cases ht : twiceB r.path with
        | true => rw [if_neg (by simp), if_pos rfl]
        | false =>
          rw [if_neg (c := false = true) (by decide)]
          cases ha : (r.path.all fun s => edgeB t s.edge) with
          | false =>
            have hl : lenE t r.path = 1 := by unfold lenE; rw [if_neg (by omega), ha, if_neg (by decide)]
            rw [if_neg (by decide), hl, if_neg (by decide)]
          | true =>
            rw [if_pos (by decide)]
            by_cases h4 : lenE t r.path = 0
            · rw [if_pos h4, if_pos h4]
              cases hg : withinB r.gap 0 (lenN t r.path - 1) with
              | false =>
                rw [if_neg (c := false = true) (by decide), if_pos]
                unfold withinB at hg
                simp only [Bool.and_eq_false_iff, decide_eq_false_iff_not] at hg
                omega
              | true =>
                rw [if_pos rfl]
                unfold withinB at hg
                simp only [Bool.and_eq_true, decide_eq_true_eq] at hg
                cases hr : withinB r.timer 1 1000 with
                | false =>
                  rw [if_neg (c := false = true) (by decide), if_pos]
                  unfold withinB at hr
                  simp only [Bool.and_eq_false_iff, decide_eq_false_iff_not] at hr
                  omega
                | true =>
                  unfold withinB at hr
                  simp only [Bool.and_eq_true, decide_eq_true_eq] at hr
                  rw [if_pos rfl, if_neg (by omega)]
            · rw [if_neg h4, if_neg h4]

set_option maxRecDepth 100000 in
set_option maxHeartbeats 8000000 in
theorem otcr_any (t : Tp3) (a : TpA) (i : Nat) (r : Rt3) (w : World) (ht : TopR w t a) (hl : lightT t = true) (hok : edgesOk t = true) (hr : t.routes[i]? = some r) :
    Calls Try.prog 34 #[.agg (tpC t a), .int .i64 i] w fun e w' => e = .returned (.int .i64 (routeAt t i)) ∧ Below w.heap.size w w' := by
  have hlg := light_nums13 hl
  obtain ⟨wa, hwa⟩ : ∃ wa, w.alloc (.cells (tpC t a) 27) = wa := ⟨_, rfl⟩
  have hbwa : Below w.heap.size w wa := by rw [← hwa]; exact (Below.refl _ _).alloc (Nat.le_refl _) _
  have h0 : Has wa (w.heap.size) 27 (tpC t a) := by rw [← hwa]; exact (Has.made _ _ _)
  have HWA := Lib.hid hwa; have HBWA := Lib.hid hbwa
  have hil := (List.getElem?_eq_some_iff.1 hr).1
  have hpl := hlg.2.2.2.2 r (List.mem_of_getElem? hr)
  rw [routeAt_at hr, routeE_w]
  have hix := idx_take (p := fun y : Rt3 => y.id == r.id) hr (by simp)
  have HFR := Lib.hid (fun W (hW : Below w.heap.size w W) => otfindroute_any t a r.id W (ht.under hW) (by have := hlg.2.2.2.1; omega))
  obtain ⟨nr, hnr⟩ : ∃ n, t.routes.length = n := ⟨_, rfl⟩
  obtain ⟨AR, hAR⟩ : ∃ A, a.ar = A := ⟨_, rfl⟩
  have hrs : RtsR w AR nr a.cr t.routes := by rw [← hAR, ← hnr]; exact ht.r
  obtain ⟨bk, off, PA, pc, rfl, hpa, d0, d1, d2, d3, hcap⟩ := hrs.cap_at hr
  have HRP := Lib.hid (fun W (hW : Below w.heap.size w W) => otrep_any r.path PA r.path.length pc W (hpa.under hW) (by omega) hcap)
  have HLE := Lib.hid (fun W (hW : Below w.heap.size w W) => otp_length t a r.path PA r.path.length pc W (ht.under hW) (hpa.under hW) (by omega) hl hok)
  have HHB := Lib.hid (fun W (hW : Below w.heap.size w W) => othave_any t a r.path PA r.path.length pc W (ht.under hW) hlg.2.2.1 (hpa.under hW) (by omega))
  have HWG := Lib.hid (fun W => otwithin_b r.gap 0 (lenN t r.path - 1) W)
  have HWT := Lib.hid (fun W => otwithin_b r.timer 1 1000 W)
  have HLB := Lib.hid (show lenE t r.path = 0 → 0 ≤ lenN t r.path ∧ lenN t r.path ≤ 40000000 from fun h => by
    have h0_ := h
    unfold lenE at h0_
    split at h0_
    · exact absurd h0_ (by decide)
    · rename_i h1_
      split at h0_
      · rename_i h2_
        rw [List.all_eq_true] at h2_
        have := sum_ok hok h2_
        unfold lenN
        rw [if_pos h]
        omega
      · exact absurd h0_ (by decide))
  have c3 : wa.cell? ⟨w.heap.size, 3, none⟩ = some (.slice (some ⟨bk, off, none⟩) nr a.cr) := by rw [← hnr, ← hAR]; exact h0.cell 3
  have f0 := (hbwa.cell (cell_block d0)).trans d0
  have f1 := (hbwa.cell (cell_block d1)).trans d1
  have f2 := (hbwa.cell (cell_block d2)).trans d2
  have f3 := (hbwa.cell (cell_block d3)).trans d3
  have HBA := Lib.hid (fun W (hW : Below wa.heap.size wa W) => hbwa.trans (hW.mono hbwa.size))
  have HH0 := Lib.hid h0
  have y0 : (0 : Int) ≤ i := by omega
  have y1 : (i : Int) < nr := by omega
  obtain ⟨R, hR⟩ : ∃ R, idxL (fun y : Rt3 => y.id == r.id) t.routes = R := ⟨_, rfl⟩
  rw [hR] at hix HFR
  obtain ⟨kk, hkk⟩ : ∃ x, ((t.routes.take i).any fun y : Rt3 => y.id == r.id) = x := ⟨_, rfl⟩
  rw [hkk] at hix
  have HIX := Lib.hid hix
  obtain ⟨tw, htw⟩ : ∃ x, twiceB r.path = x := ⟨_, rfl⟩
  obtain ⟨le, hle⟩ : ∃ x, lenE t r.path = x := ⟨_, rfl⟩
  obtain ⟨ln, hln⟩ : ∃ x, lenN t r.path = x := ⟨_, rfl⟩
  rw [hln] at HWG
  obtain ⟨bg, hbg⟩ : ∃ x, withinB r.gap 0 (ln - 1) = x := ⟨_, rfl⟩
  obtain ⟨bt, hbt⟩ : ∃ x, withinB r.timer 1 1000 = x := ⟨_, rfl⟩
  obtain ⟨hb, hhb⟩ : ∃ x, r.path.all (hasBal t) = x := ⟨_, rfl⟩
  rw [htw] at HRP
  rw [hle, hln] at HLE HLB
  rw [hbg] at HWG
  rw [hbt] at HWT
  rw [hhb] at HHB
  rw [hkk, htw, hle, hln, hbg, hbt, hhb]
  obtain ⟨V, hV⟩ : ∃ V : Int, (if (if r.id < 1 then (1 : Int) else if 8 < r.path.length then 1 else if tw = true then 1 else if le = 0 then (if bg = true then (if bt = true then (if hb = true then 0 else 4) else 1) else 1) else le) = 0 then (if kk = true then 5 else 0) else (if r.id < 1 then (1 : Int) else if 8 < r.path.length then 1 else if tw = true then 1 else if le = 0 then (if bg = true then (if bt = true then (if hb = true then 0 else 4) else 1) else 1) else le)) = V := ⟨_, rfl⟩
  rw [hV]
  have HV := Lib.hid hV
  clear hV
  clear hwa hbwa h0 ht hl hok hlg hr hrs hil hnr hAR hix hR hkk htw hle hln hbg hbt hhb hpa hcap d0 d1 d2 d3
  obtain ⟨rl, hrl⟩ : ∃ n, r.path.length = n := ⟨_, rfl⟩
  rw [hrl] at HRP HLE HHB f1 hpl HV
  clear hrl
  obtain ⟨ri, rp, rg, rt⟩ := r
  dsimp only at *
  go_enter Try.func34, Try.ntmps34
  go_upto_region 1 with fail
  rw [HWA.out]
  clear HWA
  go_upto_region 2 with fail
  obtain ⟨wb, hwb⟩ : ∃ wb, wa.alloc (.cells #[.int .i64 ri, .slice PA rl pc, .int .i64 rg, .int .i64 rt] 61) = wb := ⟨_, rfl⟩
  rw [hwb]
  have hbb : Below wa.heap.size wa wb := by rw [← hwb]; exact (Below.refl _ _).alloc (Nat.le_refl _) _
  have hX : Has wb wa.heap.size 61 #[.int .i64 ri, .slice PA rl pc, .int .i64 rg, .int .i64 rt] := by rw [← hwb]; exact Has.made _ _ _
  have HB0 := Lib.hid (HH0.out.under hbb HH0.out.lt)
  have HBB := Lib.hid (HBA.out _ hbb)
  obtain ⟨g5, hg5⟩ : ∃ g, wa.heap.size = g := ⟨_, rfl⟩
  rw [hg5] at hX
  simp only [hg5]
  have HX := Lib.hid hX
  clear hwb hbb hX hg5 f0 f1 f2 f3 c3 HH0 HBA
  have e0 : wb.cell? ⟨g5, 0, none⟩ = some (.int .i64 ri) := HX.out.cell 0
  have e1 : wb.cell? ⟨g5, 1, none⟩ = some (.slice PA rl pc) := HX.out.cell 1
  by_cases h1 : ri < 1
  · skip
    have HVV : Hid (V = 1) := Lib.hid (by rw [← HV.out]; simp [h1])
    go_wp2
    go_ret
    exact ⟨by rw [HVV.out]; rfl, HBB.out⟩
  by_cases h2 : 8 < rl
  · have h3 : (rl : Int) > 8 := by omega
    have HVV : Hid (V = 1) := Lib.hid (by rw [← HV.out]; simp [h1, h2])
    go_wp2
    go_ret
    exact ⟨by rw [HVV.out]; rfl, HBB.out⟩
  have hv2 := HV.out
  rw [if_neg h1, if_neg h2] at hv2
  have HVB := Lib.hid hv2
  clear hv2 HV
  have h3 : ¬ (rl : Int) > 8 := by omega
  have HA := Lib.hid (HRP.out wb HBB.out)
  clear HRP
  go_wp2_with fail
  refine HA.out.mono ?_
  rintro e w2 ⟨rfl, hb2⟩
  have HX2 := Lib.hid (HX.out.under hb2 HX.out.lt)
  have HB20 := Lib.hid (HB0.out.under hb2 HB0.out.lt)
  have HBB2 := Lib.hid (HBB.out.trans (hb2.mono HBB.out.size))
  clear hb2 HA h1 h2 h3 e0 e1 HX HB0 HBB
  cases tw with
  | true =>
    have HVV : Hid (V = 1) := Lib.hid (by rw [← HVB.out]; simp)
    go_wp2
    go_ret
    exact ⟨by rw [HVV.out]; rfl, HBB2.out⟩
  | false =>
    have e1 : w2.cell? ⟨g5, 1, none⟩ = some (.slice PA rl pc) := HX2.out.cell 1
    have HA := Lib.hid (HLE.out w2 HBB2.out)
    clear HLE
    go_upto_region 4 with fail
    go_wp2_with (with_reducible refine wpList_load_row (o := ⟨some 28, _, _, _, _, _⟩) rfl 27 _ rfl (w.heap.size) rfl 27 (tpC t a) (0, 0) _ (HB20.out).raw11 Try.underlying27 rfl (by kernel_rfl) ?_)
    refine HA.out.mono ?_
    rintro e w3 ⟨rfl, hb3⟩
    have HX3 := Lib.hid (HX2.out.under hb3 HX2.out.lt)
    have HB30 := Lib.hid (HB20.out.under hb3 HB20.out.lt)
    have HBB3 := Lib.hid (HBB2.out.trans (hb3.mono HBB2.out.size))
    clear hb3 HA e1 HX2 HB20 HBB2
    by_cases h4 : le = 0
    rotate_left
    · have n1 : (le == 0) = false := by simp [h4]
      have n2 : (le != 0) = true := by simp [h4]
      have HVV : Hid (V = le) := Lib.hid (by rw [← HVB.out]; simp [h4])
      go_wp2
      go_ret
      exact ⟨by rw [HVV.out]; rfl, HBB3.out⟩
    have hln := HLB.out h4
    subst h4
    have hws : IntKind.i64.wrap (ln - 1) = ln - 1 := by rw [IntKind.wrap_i64]; omega
    clear HLB hln
    have e2 : w3.cell? ⟨g5, 2, none⟩ = some (.int .i64 rg) := HX3.out.cell 2
    go_wp2_with fail
    refine (HWG.out _).mono ?_
    rintro e w4 ⟨rfl, hb4⟩
    have HX4 := Lib.hid (HX3.out.under hb4 HX3.out.lt)
    have HB40 := Lib.hid (HB30.out.under hb4 HB30.out.lt)
    have HBB4 := Lib.hid (HBB3.out.trans (hb4.mono HBB3.out.size))
    clear hb4 e2 HX3 HB30 HBB3 HWG hws
    cases bg with
    | false =>
      have HVV : Hid (V = 1) := Lib.hid (by rw [← HVB.out]; simp)
      go_wp2
      go_ret
      exact ⟨by rw [HVV.out]; rfl, HBB4.out⟩
    | true =>
      have e3 : w4.cell? ⟨g5, 3, none⟩ = some (.int .i64 rt) := HX4.out.cell 3
      go_wp2_with fail
      refine (HWT.out _).mono ?_
      rintro e w5 ⟨rfl, hb5⟩
      have HX5 := Lib.hid (HX4.out.under hb5 HX4.out.lt)
      have HB50 := Lib.hid (HB40.out.under hb5 HB40.out.lt)
      have HBB5 := Lib.hid (HBB4.out.trans (hb5.mono HBB4.out.size))
      clear hb5 e3 HX4 HB40 HBB4 HWT
      cases bt with
      | false =>
        have HVV : Hid (V = 1) := Lib.hid (by rw [← HVB.out]; simp)
        go_wp2
        go_ret
        exact ⟨by rw [HVV.out]; rfl, HBB5.out⟩
      | true =>
        have e1 : w5.cell? ⟨g5, 1, none⟩ = some (.slice PA rl pc) := HX5.out.cell 1
        have HA := Lib.hid (HHB.out w5 HBB5.out)
        clear HHB
        go_upto_region 9 with fail
        go_wp2_with (with_reducible refine wpList_load_row (o := ⟨some 52, _, _, _, _, _⟩) rfl 27 _ rfl (w.heap.size) rfl 27 (tpC t a) (0, 0) _ (HB50.out).raw11 Try.underlying27 rfl (by kernel_rfl) ?_)
        refine HA.out.mono ?_
        rintro e w6 ⟨rfl, hb6⟩
        have HX6 := Lib.hid (HX5.out.under hb6 HX5.out.lt)
        have HB60 := Lib.hid (HB50.out.under hb6 HB50.out.lt)
        have HBB6 := Lib.hid (HBB5.out.trans (hb6.mono HBB5.out.size))
        clear hb6 HA e1 HX5 HB50 HBB5
        cases hb with
        | false =>
          have HVV : Hid (V = 4) := Lib.hid (by rw [← HVB.out]; simp)
          go_wp2
          go_ret
          exact ⟨by rw [HVV.out]; rfl, HBB6.out⟩
        | true =>
          have e0 : w6.cell? ⟨g5, 0, none⟩ = some (.int .i64 ri) := HX6.out.cell 0
          have HA := Lib.hid (HFR.out w6 HBB6.out)
          clear HFR
          go_upto_region 11 with fail
          go_wp2_with (with_reducible refine wpList_load_row (o := ⟨some 58, _, _, _, _, _⟩) rfl 27 _ rfl (w.heap.size) rfl 27 (tpC t a) (0, 0) _ (HB60.out).raw11 Try.underlying27 rfl (by kernel_rfl) ?_)
          refine HA.out.mono ?_
          rintro e w7 ⟨rfl, hb7⟩
          have HBB7 := Lib.hid (HBB6.out.trans (hb7.mono HBB6.out.size))
          have hlt := HIX.out
          clear hb7 HA e0 HX6 HB60 HBB6
          cases kk with
          | true =>
            have hlt2 : R < (i : Int) := by simpa using hlt
            have HVV : Hid (V = 5) := Lib.hid (by rw [← HVB.out]; simp)
            clear hlt
            go_wp2
            go_ret
            exact ⟨by rw [HVV.out]; rfl, HBB7.out⟩
          | false =>
            have hlt2 : ¬ R < (i : Int) := by simpa using hlt
            have HVV : Hid (V = 0) := Lib.hid (by rw [← HVB.out]; simp)
            clear hlt
            go_wp2
            go_ret
            exact ⟨by rw [HVV.out]; rfl, HBB7.out⟩

end Go.Proofs.Yteioefgckigbcaa

/-
  package topo as landed: Check.
-/
namespace Go.Proofs.Yteioefgckigbcaa

open Go.RowKit

open Go.Great

set_option maxRecDepth 100000 in
set_option maxHeartbeats 8000000 in
theorem otp_check (t : Tp3) (a : TpA) (w : World) (ht : TopR w t a) (hl : lightT t = true) (hcj : t.joints.length ≤ a.cj) : Calls Try.prog 17 #[.agg (tpC t a)] w fun e w' => e = .returned (.int .i64 (checkE t)) ∧ Below w.heap.size w w' := by
  have hlg := light_nums13 hl
  obtain ⟨wa, hwa⟩ : ∃ wa, w.alloc (.cells (tpC t a) 27) = wa := ⟨_, rfl⟩
  have hbwa : Below w.heap.size w wa := by rw [← hwa]; exact (Below.refl _ _).alloc (Nat.le_refl _) _
  have h0 : Has wa (w.heap.size) 27 (tpC t a) := by rw [← hwa]; exact (Has.made _ _ _)
  have HWA := Lib.hid hwa; have HBWA := Lib.hid hbwa
  have c0 : wa.cell? ⟨w.heap.size, 0, none⟩ = some (.slice a.ae t.edges.length a.ce) := (h0).cell 0
  have H0 := Lib.hid (fun W (hW : Below wa.heap.size wa W) => h0.under hW h0.lt)
  have HT := Lib.hid (fun W (hW : Below w.heap.size w W) => ht.under hW)
  have HBA := Lib.hid (fun W (hW : Below wa.heap.size wa W) => hbwa.trans (hW.mono hbwa.size))
  have HLG := Lib.hid hlg; have HLT := Lib.hid hl; have HCJ := Lib.hid hcj
  obtain ⟨V, hV⟩ : ∃ V, checkE t = V := ⟨_, rfl⟩
  rw [hV]
  have HV := Lib.hid hV
  obtain ⟨lg, hlgb⟩ : ∃ b, longB t = b := ⟨_, rfl⟩
  have HLB := Lib.hid hlgb
  have HLO := Lib.hid (otlong_any t a wa)
  rw [hlgb] at HLO
  have heo : (t.edges.any fun x => !withinB x 1 1000000) = !edgesOk t := by
    unfold edgesOk
    rw [List.all_eq_not_any_not, Bool.not_not]
    rfl
  have HCK := Lib.hid (fun W (hW : Below wa.heap.size wa W) => oct_ck (fun x => !withinB x 1 1000000) t.edges a.ae t.edges.length a.ce W (ht.under (hbwa.trans (hW.mono hbwa.size))).e (by omega) (Lib.hid fun x W2 _ => (otck_any x W2)))
  rw [heo] at HCK
  obtain ⟨ok, hok⟩ : ∃ b, edgesOk t = b := ⟨_, rfl⟩
  rw [hok] at HCK
  have HOK := Lib.hid hok
  obtain ⟨n1, hn1⟩ : ∃ n, t.joints.length = n := ⟨_, rfl⟩
  obtain ⟨n2, hn2⟩ : ∃ n, t.bals.length = n := ⟨_, rfl⟩
  obtain ⟨n3, hn3⟩ : ∃ n, t.routes.length = n := ⟨_, rfl⟩
  obtain ⟨ne, hne⟩ : ∃ n, t.edges.length = n := ⟨_, rfl⟩
  have HN1 := Lib.hid hn1; have HN2 := Lib.hid hn2; have HN3 := Lib.hid hn3
  have k1 : n1 ≤ 100 := by rw [← hn1]; exact hlg.2.1
  have k2 : n2 ≤ 100 := by rw [← hn2]; exact hlg.2.2.1
  have k3 : n3 ≤ 100 := by rw [← hn3]; exact hlg.2.2.2.1
  have HC1 := Lib.hid (fun W (hW : Below wa.heap.size wa W) => (show W.cell? ⟨w.heap.size, 1, none⟩ = some (.slice a.aj n1 a.cj) from by rw [← hn1]; exact (h0.under hW h0.lt).cell 1))
  have HC2 := Lib.hid (fun W (hW : Below wa.heap.size wa W) => (show W.cell? ⟨w.heap.size, 2, none⟩ = some (.slice a.ab n2 a.cb) from by rw [← hn2]; exact (h0.under hW h0.lt).cell 2))
  have HC3 := Lib.hid (fun W (hW : Below wa.heap.size wa W) => (show W.cell? ⟨w.heap.size, 3, none⟩ = some (.slice a.ar n3 a.cr) from by rw [← hn3]; exact (h0.under hW h0.lt).cell 3))
  have HC0 := Lib.hid (fun W (hW : Below wa.heap.size wa W) => (show W.cell? ⟨w.heap.size, 0, none⟩ = some (.slice a.ae ne a.ce) from by rw [← hne]; exact (h0.under hW h0.lt).cell 0))
  rw [hne] at HCK
  clear hwa hbwa h0 ht hl hcj hlg hV hlgb heo hok hn1 hn2 hn3 hne c0
  go_enter Try.func17, Try.ntmps17
  go_upto_region 1 with fail
  rw [HWA.out]
  clear HWA
  go_wp2_with (with_reducible refine wpList_load_row (o := ⟨some 10, _, _, _, _, _⟩) rfl 27 _ rfl (w.heap.size) rfl 27 (tpC t a) (0, 0) _ ((H0.out wa (Below.refl _ _))).raw11 Try.underlying27 rfl (by kernel_rfl) ?_)
  refine HLO.out.mono ?_
  rintro e w1 ⟨rfl, hb1⟩
  have HB1 := Lib.hid hb1
  clear hb1 HLO
  cases lg with
  | true =>
    have HF : Hid (V = 2) := Lib.hid (by rw [← HV.out]; unfold checkE; rw [if_pos HLB.out])
    go_wp2
    go_ret
    exact ⟨by rw [HF.out]; rfl, HBA.out _ HB1.out⟩
  | false =>
    have c0 := HC0.out w1 HB1.out
    have HA := Lib.hid (HCK.out w1 HB1.out)
    clear HCK
    go_upto_region 3 with fail
    go_wp2_with fail
    refine HA.out.mono ?_
    rintro e w2 ⟨rfl, hb2⟩
    have HB2 := Lib.hid (HB1.out.trans (hb2.mono HB1.out.size))
    clear hb2 HA c0
    cases ok with
    | false =>
      have HF : Hid (V = 1) := Lib.hid (by rw [← HV.out]; unfold checkE; rw [if_neg (by rw [HLB.out]; decide), if_neg (by rw [HOK.out]; decide)])
      go_wp2
      go_ret
      exact ⟨by rw [HF.out]; rfl, HBA.out _ HB2.out⟩
    | true =>
      have HR1 : Hid ((if firstE (jointE t) n1 = 0 then (if firstE (balE t) n2 = 0 then firstE (routeAt t) n3 else firstE (balE t) n2) else firstE (jointE t) n1) = V) := Lib.hid (by rw [← HV.out, ← HN1.out, ← HN2.out, ← HN3.out]; unfold checkE; rw [if_neg (c := longB t = true) (by rw [HLB.out]; decide), if_pos HOK.out])
      clear HV
      have c1 := HC1.out _ HB2.out
      go_upto_region 5 with fail
      go_wp2
      go_loopg [19] n1 (fun kk v wl => ∃ i : Nat, i ≤ n1 ∧ n1 - i ≤ kk ∧ v = .int .i64 i ∧ Hid (firstE (jointE t) i = 0) ∧ Hid (Below wa.heap.size wa wl))
      case atStart => exact ⟨0, by omega, by omega, rfl, Lib.hid rfl, HB2⟩
      case round =>
        obtain ⟨i, hi, hik, rfl, HF1, HWn1⟩ := hrel
        clear c1
        by_cases hlt : i < n1
        rotate_left
        · have x1 : ¬ (i : Int) < n1 := by omega
          obtain rfl : i = n1 := by omega
          have HR2 : Hid ((if firstE (balE t) n2 = 0 then firstE (routeAt t) n3 else firstE (balE t) n2) = V) := Lib.hid (by have h_ := HR1.out; rw [if_pos HF1.out] at h_; exact h_)
          clear hi hik hlt x1
          have c2 := HC2.out _ HWn1.out
          go_upto_region 12 with fail
          go_wp2
          go_loopg [32] n2 (fun kk v wl => ∃ i : Nat, i ≤ n2 ∧ n2 - i ≤ kk ∧ v = .int .i64 i ∧ Hid (firstE (balE t) i = 0) ∧ Hid (Below wa.heap.size wa wl))
          case atStart => exact ⟨0, by omega, by omega, rfl, Lib.hid rfl, HWn1⟩
          case round =>
            obtain ⟨i, hi, hik, rfl, HF2, HWn2⟩ := hrel
            clear c2
            by_cases hlt : i < n2
            rotate_left
            · have x1 : ¬ (i : Int) < n2 := by omega
              obtain rfl : i = n2 := by omega
              have HR3 : Hid (firstE (routeAt t) n3 = V) := Lib.hid (by have h_ := HR2.out; rw [if_pos HF2.out] at h_; exact h_)
              clear hi hik hlt x1
              have c3 := HC3.out _ HWn2.out
              go_upto_region 19 with fail
              go_wp2
              go_loopg [45] n3 (fun kk v wl => ∃ i : Nat, i ≤ n3 ∧ n3 - i ≤ kk ∧ v = .int .i64 i ∧ Hid (firstE (routeAt t) i = 0) ∧ Hid (Below wa.heap.size wa wl))
              case atStart => exact ⟨0, by omega, by omega, rfl, Lib.hid rfl, HWn2⟩
              case round =>
                obtain ⟨i, hi, hik, rfl, HF3, HWn3⟩ := hrel
                clear c3
                by_cases hlt : i < n3
                rotate_left
                · have x1 : ¬ (i : Int) < n3 := by omega
                  obtain rfl : i = n3 := by omega
                  have HVV : Hid (V = 0) := Lib.hid (by rw [← HR3.out]; exact HF3.out)
                  go_wp2
                  go_ret
                  exact ⟨by rw [HVV.out]; rfl, HBA.out _ HWn3.out⟩
                obtain ⟨x, hx⟩ : ∃ x, t.routes[i]? = some x := ⟨_, List.getElem?_eq_getElem (by rw [HN3.out]; exact hlt)⟩
                have HCA := Lib.hid (otcr_any t a i x wr (HT.out _ (HBA.out _ HWn3.out)) HLT.out HOK.out hx)
                obtain ⟨e, he⟩ : ∃ e, routeAt t i = e := ⟨_, rfl⟩
                rw [he] at HCA
                have HE := Lib.hid he
                have y0 : (0 : Int) ≤ i := by omega
                have y1 : (i : Int) < n3 := by omega
                clear hx he
                go_wp2_with (with_reducible refine wpList_load_row (o := ⟨some 48, _, _, _, _, _⟩) rfl 27 _ rfl (w.heap.size) rfl 27 (tpC t a) (0, 0) _ ((H0.out wr HWn3.out)).raw11 Try.underlying27 rfl (by kernel_rfl) ?_)
                refine HCA.out.mono ?_
                rintro e_ w5 ⟨rfl, hb5⟩
                have HB5 := Lib.hid (HWn3.out.trans (hb5.mono HWn3.out.size))
                clear hb5 HCA
                by_cases hz : e = 0
                rotate_left
                · have z1 : (e == 0) = false := by simp [hz]
                  have z2 : (e != 0) = true := by simp [hz]
                  have HFF : Hid (V = e) := Lib.hid (by have hf_ := first_at hlt HF3.out (by rw [HE.out]; exact hz); rw [HE.out] at hf_; rw [← HR3.out]; rw [hf_])
                  go_wp2
                  go_ret
                  exact ⟨by rw [HFF.out]; rfl, HBA.out _ HB5.out⟩
                subst hz
                have HFN : Hid (firstE (routeAt t) (i + 1) = 0) := Lib.hid (by show (if firstE (routeAt t) i = 0 then routeAt t i else firstE (routeAt t) i) = 0; rw [if_pos HF3.out]; exact HE.out)
                go_wp2
                go_roundg (gk - 1)
                case measure => omega
                case rel => exact ⟨i + 1, by omega, by omega, by go_num, HFN, HB5⟩
            obtain ⟨x, hx⟩ : ∃ x, t.bals[i]? = some x := ⟨_, List.getElem?_eq_getElem (by rw [HN2.out]; exact hlt)⟩
            have HCA := Lib.hid (otcb_any t a i x wr (HT.out _ (HBA.out _ HWn2.out)) HLG.out.1 HLG.out.2.2.1 hx)
            obtain ⟨e, he⟩ : ∃ e, balE t i = e := ⟨_, rfl⟩
            rw [he] at HCA
            have HE := Lib.hid he
            have y0 : (0 : Int) ≤ i := by omega
            have y1 : (i : Int) < n2 := by omega
            clear hx he
            go_wp2_with (with_reducible refine wpList_load_row (o := ⟨some 35, _, _, _, _, _⟩) rfl 27 _ rfl (w.heap.size) rfl 27 (tpC t a) (0, 0) _ ((H0.out wr HWn2.out)).raw11 Try.underlying27 rfl (by kernel_rfl) ?_)
            refine HCA.out.mono ?_
            rintro e_ w5 ⟨rfl, hb5⟩
            have HB5 := Lib.hid (HWn2.out.trans (hb5.mono HWn2.out.size))
            clear hb5 HCA
            by_cases hz : e = 0
            rotate_left
            · have z1 : (e == 0) = false := by simp [hz]
              have z2 : (e != 0) = true := by simp [hz]
              have HFF : Hid (V = e) := Lib.hid (by have hf_ := first_at hlt HF2.out (by rw [HE.out]; exact hz); rw [HE.out] at hf_; rw [← HR2.out]; rw [hf_, if_neg hz])
              go_wp2
              go_ret
              exact ⟨by rw [HFF.out]; rfl, HBA.out _ HB5.out⟩
            subst hz
            have HFN : Hid (firstE (balE t) (i + 1) = 0) := Lib.hid (by show (if firstE (balE t) i = 0 then balE t i else firstE (balE t) i) = 0; rw [if_pos HF2.out]; exact HE.out)
            go_wp2
            go_roundg (gk - 1)
            case measure => omega
            case rel => exact ⟨i + 1, by omega, by omega, by go_num, HFN, HB5⟩
        obtain ⟨x, hx⟩ : ∃ x, t.joints[i]? = some x := ⟨_, List.getElem?_eq_getElem (by rw [HN1.out]; exact hlt)⟩
        have HCA := Lib.hid (otcj_any t a i x wr (HT.out _ (HBA.out _ HWn1.out)) HLG.out.1 HLG.out.2.1 HCJ.out hx)
        obtain ⟨e, he⟩ : ∃ e, jointE t i = e := ⟨_, rfl⟩
        rw [he] at HCA
        have HE := Lib.hid he
        have y0 : (0 : Int) ≤ i := by omega
        have y1 : (i : Int) < n1 := by omega
        clear hx he
        go_wp2_with (with_reducible refine wpList_load_row (o := ⟨some 22, _, _, _, _, _⟩) rfl 27 _ rfl (w.heap.size) rfl 27 (tpC t a) (0, 0) _ ((H0.out wr HWn1.out)).raw11 Try.underlying27 rfl (by kernel_rfl) ?_)
        refine HCA.out.mono ?_
        rintro e_ w5 ⟨rfl, hb5⟩
        have HB5 := Lib.hid (HWn1.out.trans (hb5.mono HWn1.out.size))
        clear hb5 HCA
        by_cases hz : e = 0
        rotate_left
        · have z1 : (e == 0) = false := by simp [hz]
          have z2 : (e != 0) = true := by simp [hz]
          have HFF : Hid (V = e) := Lib.hid (by have hf_ := first_at hlt HF1.out (by rw [HE.out]; exact hz); rw [HE.out] at hf_; rw [← HR1.out]; rw [hf_, if_neg hz])
          go_wp2
          go_ret
          exact ⟨by rw [HFF.out]; rfl, HBA.out _ HB5.out⟩
        subst hz
        have HFN : Hid (firstE (jointE t) (i + 1) = 0) := Lib.hid (by show (if firstE (jointE t) i = 0 then jointE t i else firstE (jointE t) i) = 0; rw [if_pos HF1.out]; exact HE.out)
        go_wp2
        go_roundg (gk - 1)
        case measure => omega
        case rel => exact ⟨i + 1, by omega, by omega, by go_num, HFN, HB5⟩

end Go.Proofs.Yteioefgckigbcaa
