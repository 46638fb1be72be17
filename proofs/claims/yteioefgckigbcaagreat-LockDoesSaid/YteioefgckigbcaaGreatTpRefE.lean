/-
  linesideref13, by contract: Check.
-/
import Derived.Test.YteioefgckigbcaaGreatTpRefD

import Derived.BigQuiet

import Derived.IntWalk

namespace Go.Proofs.YteioefgckigbcaaGreat

open Go.RowKit

open Go.Great

theorem sl_low13 {w : World} {s : Nat} {A : Option Addr} {n c : Nat} {vs : List Value} (h : Sl w s A n c vs) {q : Nat} (hq : q ≤ n) : A ≠ none → Sl w s A q c (vs.take (q * s)) := by
  intro hA
  have hl : vs.length = n * s := h.1
  have hm : q * s ≤ n * s := Nat.mul_le_mul_right s hq
  refine ⟨by rw [List.length_take]; omega, fun e => absurd e hA, fun ad ha j u hu => ?_⟩
  have hj : j < q * s := by
    have := (List.getElem?_eq_some_iff.1 hu).1
    rw [List.length_take] at this
    omega
  rw [List.getElem?_take_of_lt hj] at hu
  exact h.2.2 ad ha j u hu
theorem flat_take13 {α : Type} {f : α → List Value} {k : Nat} (hf : ∀ x, (f x).length = k) (l : List α) (q : Nat) : (l.take q).flatMap f = (l.flatMap f).take (q * k) := by
  induction l generalizing q with
  | nil => simp
  | cons x r ih =>
    cases q with
    | zero => simp
    | succ m =>
      have e : (m + 1) * k = k + m * k := by rw [Nat.succ_mul, Nat.add_comm]
      rw [List.take_succ_cons, List.flatMap_cons, List.flatMap_cons, ih, e]
      conv => rhs; rw [← hf x]
      rw [List.take_length_add_append]
      rw [hf x]
theorem SlO.take {α : Type} {f : α → List Value} {k : Nat} {w : World} {A : Option Addr} {n c : Nat} {l : List α} (h : SlO f k w A n c l) (hf : ∀ x, (f x).length = k) (hA : A ≠ none) {q : Nat} (hq : q ≤ n) : SlO f k w A q c (l.take q) :=
  ⟨by rw [List.length_take, h.1]; omega, by rw [flat_take13 hf]; exact sl_low13 h.2 hq hA⟩
theorem jointE_at {t : Tp3} {i : Nat} {j : Jt3} (h : t.joints[i]? = some j) : jointE t i = if (endB t j.a && endB t j.b && !eqE j.a j.b) = true then (if joinB (t.joints.take i) j.a j.b = true then 5 else 0) else 1 := by
  unfold jointE
  rw [h]
theorem balE_at {t : Tp3} {i : Nat} {b : Bl3} (h : t.bals[i]? = some b) : balE t i = if (decide (0 ≤ b.id) && decide (b.id ≤ 16777214) && edgeB t b.edge && decide (0 ≤ b.at_) && decide (b.at_ ≤ t.edges.getD b.edge.toNat 0)) = true then (if ((t.bals.take i).any fun x => x.id == b.id) = true then 5 else 0) else 1 := by
  unfold balE
  rw [h]
theorem routeAt_at {t : Tp3} {i : Nat} {r : Rt3} (h : t.routes[i]? = some r) : routeAt t i = if routeE t r = 0 then (if ((t.routes.take i).any fun x => x.id == r.id) = true then 5 else 0) else routeE t r := by
  unfold routeAt
  rw [h]
theorem check_long {t : Tp3} (h : longB t = true) : checkE t = 2 := by
  unfold checkE
  rw [if_pos h]
theorem check_edge {t : Tp3} (h : longB t = false) {m : Nat} {e : Int} (hm : t.edges[m]? = some e) (he : e < 1 ∨ 1000000 < e) : checkE t = 1 := by
  unfold checkE
  rw [if_neg (by rw [h]; decide), if_neg]
  intro hc
  unfold edgesOk at hc
  rw [List.all_eq_true] at hc
  have := hc e (List.mem_of_getElem? hm)
  simp at this
  omega
theorem edges_ok13 {t : Tp3} (h : ∀ (m : Nat) (e : Int), t.edges[m]? = some e → 1 ≤ e ∧ e ≤ 1000000) : edgesOk t = true := by
  unfold edgesOk
  rw [List.all_eq_true]
  intro e he
  obtain ⟨m, hm, rfl⟩ := List.getElem_of_mem he
  have := h m _ (List.getElem?_eq_getElem hm)
  simp
  omega
theorem check_rest {t : Tp3} (h : longB t = false) (he : edgesOk t = true) : checkE t = (if firstE (jointE t) t.joints.length = 0 then
      (if firstE (balE t) t.bals.length = 0 then firstE (routeAt t) t.routes.length else firstE (balE t) t.bals.length)
     else firstE (jointE t) t.joints.length) := by
  unfold checkE
  rw [if_neg (by rw [h]; decide), if_pos he]
theorem any_no13 {α : Type} {f : α → Bool} {l : List α} {k : Nat} (h : ∀ (m : Nat) (y : α), m < k → l[m]? = some y → f y = false) : (l.take k).any f = false := by
  rw [List.any_eq_false]
  intro y hy
  obtain ⟨m, hm, rfl⟩ := List.getElem_of_mem hy
  rw [List.length_take] at hm
  rw [List.getElem_take, h m _ (by omega) (List.getElem?_eq_getElem (by omega))]
  decide
theorem any_yes13 {α : Type} {f : α → Bool} {l : List α} {k m : Nat} {y : α} (hm : m < k) (hy : l[m]? = some y) (hf : f y = true) : (l.take k).any f = true := by
  rw [List.any_eq_true]
  exact ⟨y, List.mem_of_getElem? (i := m) (by rw [List.getElem?_take_of_lt hm]; exact hy), hf⟩

set_option maxRecDepth 100000 in
set_option maxHeartbeats 8000000 in
theorem rcheck_any (t : Tp3) (a : TpA) (w : World) (ht : TopR w t a) (hlt : lightT t = true) (hcj : t.joints.length ≤ a.cj) :
    Calls Tryz.prog 35 #[.agg (tpC t a)] w fun e w' => e = .returned (.int .i64 (checkE t)) ∧ Below w.heap.size w w' := by
  obtain ⟨cE, hcE⟩ : ∃ e, checkE t = e := ⟨_, rfl⟩
  have HCE := Lib.hid hcE
  rw [hcE]
  clear hcE
  have HLT := Lib.hid (light_nums13 hlt)
  have HCJ := Lib.hid hcj
  clear hlt hcj
  obtain ⟨wa, hwa⟩ : ∃ wa, w.alloc (.cells (tpC t a) 27) = wa := ⟨_, rfl⟩
  have hbwa : Below w.heap.size w wa := by rw [← hwa]; exact (Below.refl _ _).alloc (Nat.le_refl _) _
  have h0 : Has wa (w.heap.size) 27 (tpC t a) := by rw [← hwa]; exact (Has.made _ _ _)
  have HWA := Lib.hid hwa; have HBWA := Lib.hid hbwa
  have H0 := Lib.hid (fun W (hW : Below wa.heap.size wa W) => h0.under hW h0.lt)
  have HT := Lib.hid (fun W (hW : Below w.heap.size w W) => ht.under hW)
  have HBA := Lib.hid (fun W (hW : Below wa.heap.size wa W) => hbwa.trans (hW.mono hbwa.size))
  have HT0 := Lib.hid (ht.under hbwa)
  have c0 : wa.cell? ⟨w.heap.size, 0, none⟩ = some (.slice a.ae t.edges.length a.ce) := h0.cell 0
  have c1 : wa.cell? ⟨w.heap.size, 1, none⟩ = some (.slice a.aj t.joints.length a.cj) := h0.cell 1
  have c2 : wa.cell? ⟨w.heap.size, 2, none⟩ = some (.slice a.ab t.bals.length a.cb) := h0.cell 2
  have c3 : wa.cell? ⟨w.heap.size, 3, none⟩ = some (.slice a.ar t.routes.length a.cr) := h0.cell 3
  clear hwa hbwa h0 ht
  obtain ⟨n0, hn0⟩ : ∃ n, t.edges.length = n := ⟨_, rfl⟩
  rw [hn0] at c0
  have HN0 := Lib.hid hn0
  obtain ⟨n1, hn1⟩ : ∃ n, t.joints.length = n := ⟨_, rfl⟩
  rw [hn1] at c1
  have HN1 := Lib.hid hn1
  obtain ⟨n2, hn2⟩ : ∃ n, t.bals.length = n := ⟨_, rfl⟩
  rw [hn2] at c2
  have HN2 := Lib.hid hn2
  obtain ⟨n3, hn3⟩ : ∃ n, t.routes.length = n := ⟨_, rfl⟩
  rw [hn3] at c3
  have HN3 := Lib.hid hn3
  have HNN := Lib.hid (show n0 ≤ 100 ∧ n1 ≤ 100 ∧ n2 ≤ 100 ∧ n3 ≤ 100 from by have h_ := HLT.out; omega)
  have hnn := HNN.out
  clear hn0 hn1 hn2 hn3
  obtain ⟨hm0, hm1, hm2, hm3⟩ := hnn
  by_cases k0 : 40 < n0
  · have x0 : (40 : Int) < n0 := by omega
    go_enter Tryz.func35, Tryz.ntmps35
    go_upto_region 1 with fail
    rw [HWA.out]
    clear HWA
    go_wp2
    go_ret
    have hE : cE = 2 := by rw [← HCE.out]; exact check_long (by unfold longB; rw [HN0.out, HN1.out, HN2.out, HN3.out]; simp; omega)
    subst hE
    exact ⟨by first | rfl | simp, HBWA.out⟩
  have x0 : ¬ (40 : Int) < n0 := by omega
  by_cases k1 : 80 < n1
  · have x1 : (80 : Int) < n1 := by omega
    go_enter Tryz.func35, Tryz.ntmps35
    go_upto_region 1 with fail
    rw [HWA.out]
    clear HWA
    go_wp2
    go_ret
    have hE : cE = 2 := by rw [← HCE.out]; exact check_long (by unfold longB; rw [HN0.out, HN1.out, HN2.out, HN3.out]; simp; omega)
    subst hE
    exact ⟨by first | rfl | simp, HBWA.out⟩
  have x1 : ¬ (80 : Int) < n1 := by omega
  by_cases k2 : 80 < n2
  · have x2 : (80 : Int) < n2 := by omega
    go_enter Tryz.func35, Tryz.ntmps35
    go_upto_region 1 with fail
    rw [HWA.out]
    clear HWA
    go_wp2
    go_ret
    have hE : cE = 2 := by rw [← HCE.out]; exact check_long (by unfold longB; rw [HN0.out, HN1.out, HN2.out, HN3.out]; simp; omega)
    subst hE
    exact ⟨by first | rfl | simp, HBWA.out⟩
  have x2 : ¬ (80 : Int) < n2 := by omega
  by_cases k3 : 30 < n3
  · have x3 : (30 : Int) < n3 := by omega
    go_enter Tryz.func35, Tryz.ntmps35
    go_upto_region 1 with fail
    rw [HWA.out]
    clear HWA
    go_wp2
    go_ret
    have hE : cE = 2 := by rw [← HCE.out]; exact check_long (by unfold longB; rw [HN0.out, HN1.out, HN2.out, HN3.out]; simp; omega)
    subst hE
    exact ⟨by first | rfl | simp, HBWA.out⟩
  have x3 : ¬ (30 : Int) < n3 := by omega
  have HLB := Lib.hid (show longB t = false from by unfold longB; rw [HN0.out, HN1.out, HN2.out, HN3.out]; simp; omega)
  go_enter Tryz.func35, Tryz.ntmps35
  go_upto_region 1 with fail
  rw [HWA.out]
  clear HWA
  go_upto_region 3 with fail
  clear x0 x1 x2 x3 k0 k1 k2 k3 c1 c2 c3
  go_wp2
  go_loopg [3] n0 (fun kk v wl => ∃ i : Nat, i ≤ n0 ∧ n0 - i ≤ kk ∧ v = .int .i64 i ∧ Hid (∀ (m : Nat) (e : Int), m < i → t.edges[m]? = some e → 1 ≤ e ∧ e ≤ 1000000) ∧ wl = wa)
  case atStart => exact ⟨0, by omega, by omega, rfl, Lib.hid (fun m e h => absurd h (by omega)), rfl⟩
  case round =>
    obtain ⟨i, hi, hik, rfl, HED, rfl⟩ := hrel
    by_cases hlt : i < n0
    · obtain ⟨be, oe, hae, ce⟩ := HT0.out.e.edge (show i < t.edges.length by rw [HN0.out]; exact hlt)
      obtain ⟨q, hq⟩ : ∃ q, t.edges.getD i 0 = q := ⟨_, rfl⟩
      have HQ := Lib.hid (show t.edges[i]? = some q from by rw [← hq, List.getD_eq_getElem?_getD, List.getElem?_eq_getElem (by rw [HN0.out]; exact hlt)]; rfl)
      rw [hq] at ce
      rw [hae] at c0
      have y0 : (0 : Int) ≤ i := by omega
      have y1 : (i : Int) < n0 := by omega
      clear hq hae
      by_cases q0 : q < 1
      · go_wp2
        go_ret
        have hE : cE = 1 := by rw [← HCE.out]; exact check_edge HLB.out HQ.out (by omega)
        subst hE
        exact ⟨by first | rfl | simp, HBWA.out⟩
      by_cases q1 : 1000000 < q
      · go_wp2
        go_ret
        have hE : cE = 1 := by rw [← HCE.out]; exact check_edge HLB.out HQ.out (by omega)
        subst hE
        exact ⟨by first | rfl | simp, HBWA.out⟩
      have HQ2 := Lib.hid (show 1 ≤ q ∧ q ≤ 1000000 by omega)
      go_wp2
      go_roundg (gk - 1)
      case measure => omega
      case rel =>
        refine ⟨i + 1, by omega, by omega, by go_num, Lib.hid (fun m e hm he => ?_), rfl⟩
        by_cases hmi : m = i
        · rw [hmi, HQ.out] at he
          injection he with he
          rw [← he]
          exact HQ2.out
        · exact HED.out m e (by omega) he
    have x1 : ¬ (i : Int) < n0 := by omega
    have HOK := Lib.hid (edges_ok13 (t := t) fun m e he => HED.out m e (by have h1_ : m < t.edges.length := (List.getElem?_eq_some_iff.1 he).1; have := HN0.out; omega) he)
    have HR1 := Lib.hid ((HCE.out.symm.trans (check_rest HLB.out HOK.out)))
    rw [HN1.out, HN2.out, HN3.out] at HR1
    clear HED HCE hi hik hlt
    obtain ⟨w0, hw0⟩ : ∃ w0, w0 = wr := ⟨_, rfl⟩
    subst hw0
    go_upto_region 8 with fail
    clear x1 c0
    go_wp2
    go_loopg [4] n1 (fun kk v wl => ∃ i : Nat, i ≤ n1 ∧ n1 - i ≤ kk ∧ v = .int .i64 i ∧ Hid (firstE (jointE t) i = 0) ∧ Below w0.heap.size w0 wl)
    case atStart => exact ⟨0, by omega, by omega, rfl, Lib.hid rfl, Below.refl _ _⟩
    case round =>
      obtain ⟨i, hi, hik, rfl, HF, hwr⟩ := hrel
      have HW := Lib.hid hwr
      have c1 : wr.cell? ⟨w.heap.size, 1, none⟩ = some (.slice a.aj n1 a.cj) := by have h_ := (H0.out wr hwr).cell 1; rw [← HN1.out]; exact h_
      clear hwr
      by_cases hlt : i < n1
      rotate_left
      · have x1 : ¬ (i : Int) < n1 := by omega
        obtain rfl : i = n1 := by omega
        have HR2 := Lib.hid HR1.out
        rw [if_pos HF.out] at HR2
        clear HR1 hi hik hlt
        go_upto_region 18 with fail
        clear x1 c1
        go_wp2
        go_loopg [8] n2 (fun kk v wl => ∃ i : Nat, i ≤ n2 ∧ n2 - i ≤ kk ∧ v = .int .i64 i ∧ Hid (firstE (balE t) i = 0) ∧ Below w0.heap.size w0 wl)
        case atStart => exact ⟨0, by omega, by omega, rfl, Lib.hid rfl, HW.out⟩
        case round =>
          obtain ⟨k, hk, hkk, rfl, HF2, hwr⟩ := hrel
          have HW3 := Lib.hid hwr
          have c2 : wr.cell? ⟨w.heap.size, 2, none⟩ = some (.slice a.ab n2 a.cb) := by have h_ := (H0.out wr hwr).cell 2; rw [← HN2.out]; exact h_
          clear hwr
          by_cases hlt : k < n2
          rotate_left
          · have x1 : ¬ (k : Int) < n2 := by omega
            obtain rfl : k = n2 := by omega
            have HR3 := Lib.hid HR2.out
            rw [if_pos HF2.out] at HR3
            clear HR2 hk hkk hlt
            go_upto_region 30 with fail
            clear x1 c2
            go_wp2
            go_loopg [12] n3 (fun kk v wl => ∃ m : Nat, m ≤ n3 ∧ n3 - m ≤ kk ∧ v = .int .i64 m ∧ Hid (firstE (routeAt t) m = 0) ∧ Below w0.heap.size w0 wl)
            case atStart => exact ⟨0, by omega, by omega, rfl, Lib.hid rfl, HW3.out⟩
            case round =>
              obtain ⟨m, hm, hmk, rfl, HF3, hwr⟩ := hrel
              have HW4 := Lib.hid hwr
              have c3 : wr.cell? ⟨w.heap.size, 3, none⟩ = some (.slice a.ar n3 a.cr) := by have h_ := (H0.out wr hwr).cell 3; rw [← HN3.out]; exact h_
              clear hwr
              by_cases hlt : m < n3
              rotate_left
              · have x1 : ¬ (m : Int) < n3 := by omega
                obtain rfl : m = n3 := by omega
                go_wp2
                go_ret
                have hE : cE = 0 := by rw [HR3.out]; exact HF3.out
                subst hE
                exact ⟨by first | rfl | simp, HBA.out _ HW4.out⟩
              obtain ⟨r, hr⟩ : ∃ r, t.routes[m]? = some r := ⟨_, List.getElem?_eq_getElem (by rw [HN3.out]; exact hlt)⟩
              have HRX := Lib.hid hr
              have HRA := Lib.hid (routeAt_at hr)
              obtain ⟨bk, off, PA, pc, hab, hpa, d0, d1, d2, d3⟩ := (HT.out wr (HBA.out wr HW4.out)).r.at_ hr
              have hpl : r.path.length ≤ 100 := HLT.out.2.2.2.2 r (List.mem_of_getElem? hr)
              obtain ⟨ri, rp, rg, rt⟩ := r
              dsimp only at *
              have HPA := Lib.hid hpa
              have HAR := Lib.hid hab
              obtain ⟨rl, hrl⟩ : ∃ l, rp.length = l := ⟨_, rfl⟩
              have HRL := Lib.hid hrl
              rw [hrl] at d1 hpl
              clear hrl hpa hr
              have HCX := Lib.hid (fun W (hW : Below wr.heap.size wr W) => (show W.cell? ⟨bk, off + m * 4, none⟩ = some (.int .i64 ri) ∧ W.cell? ⟨bk, off + m * 4 + 1, none⟩ = some (.slice PA rl pc) ∧ W.cell? ⟨bk, off + m * 4 + 2, none⟩ = some (.int .i64 rg) ∧ W.cell? ⟨bk, off + m * 4 + 3, none⟩ = some (.int .i64 rt) from ⟨(hW.cell (cell_block d0)).trans d0, (hW.cell (cell_block d1)).trans d1, (hW.cell (cell_block d2)).trans d2, (hW.cell (cell_block d3)).trans d3⟩))
              obtain ⟨e, he⟩ : ∃ e, routeE t ⟨ri, rp, rg, rt⟩ = e := ⟨_, rfl⟩
              have HEE := Lib.hid he
              rw [he] at HRA
              rw [hab] at c3
              have y0 : (0 : Int) ≤ m := by omega
              have y1 : (m : Int) < n3 := by omega
              clear he hab d0 d1 d2 d3
              go_upto_region 33 with fail
              clear c3
              refine wp_region_held_drew (S := (fun W_ => Has W_ (w.heap.size) 27 (tpC t a) ∧ Below wr.heap.size wr W_)) (by kernel_rfl) ?_ (fun hHeld => ?_)
              · exact ⟨(H0.out _ HW4.out).draw, below_dr11 (Below.refl _ _)⟩
              refine wpAnyH_take (i := 0) (oi := ⟨some 185, _, _, _, _, _⟩) (v := .agg (tpC t a)) rfl (by kernel_rfl) (by kernel_rfl) (by kernel_rfl) (fun _ _ _ h => h) (yields_load_row11 27 _ rfl (w.heap.size) rfl 27 (tpC t a) _ (fun _ ⟨h_, _⟩ => h_) Tryz.underlying27 rfl (by kernel_rfl) (by rfl)) (by assumption) ?_
              simp only [Act.put, List.setIfInBounds_toArray, List.set_cons_zero, List.set_cons_succ]
              refine wpAnyH_take (i := 1) (oi := ⟨some 186, _, _, _, _, _⟩) (v := ?_) rfl (by kernel_rfl) (by kernel_rfl) (by kernel_rfl) (fun _ _ _ h => h) (Or.inl ⟨by rfl, ?_⟩) (by assumption) ?_
              rotate_left
              · intro w_ hSw; (try dsimp only at hSw); go_simp <;> with_reducible rfl
              simp only [Act.put, List.setIfInBounds_toArray, List.set_cons_zero, List.set_cons_succ]
              refine wpAnyH_take (i := 2) (oi := ⟨some 187, _, _, _, _, _⟩) (v := ?_) rfl (by kernel_rfl) (by kernel_rfl) (by kernel_rfl) (fun _ _ _ h => h) (Or.inl ⟨by rfl, ?_⟩) (by assumption) ?_
              rotate_left
              · intro w_ hSw; (try dsimp only at hSw); have c3_ : w_.cell? ⟨w.heap.size, 3, none⟩ = some (.slice (some ⟨bk, off, none⟩) n3 a.cr) := (by have h_ := hSw.1.cell 3; rw [← HAR.out, ← HN3.out]; exact h_); go_simp <;> with_reducible rfl
              simp only [Act.put, List.setIfInBounds_toArray, List.set_cons_zero, List.set_cons_succ]
              refine wpAnyH_take (i := 3) (oi := ⟨some 188, _, _, _, _, _⟩) (v := ?_) rfl (by kernel_rfl) (by kernel_rfl) (by kernel_rfl) (fun _ _ _ h => h) (Or.inl ⟨by rfl, ?_⟩) (by assumption) ?_
              rotate_left
              · intro w_ hSw; (try dsimp only at hSw); go_simp <;> with_reducible rfl
              simp only [Act.put, List.setIfInBounds_toArray, List.set_cons_zero, List.set_cons_succ]
              refine wpAnyH_take (i := 4) (oi := ⟨some 189, _, _, _, _, _⟩) (v := ?_) rfl (by kernel_rfl) (by kernel_rfl) (by kernel_rfl) (fun _ _ _ h => h) (Or.inl ⟨by rfl, ?_⟩) (by assumption) ?_
              rotate_left
              · intro w_ hSw; (try dsimp only at hSw); go_simp <;> with_reducible rfl
              simp only [Act.put, List.setIfInBounds_toArray, List.set_cons_zero, List.set_cons_succ]
              refine wpAnyH_take (i := 5) (oi := ⟨some 190, _, _, _, _, _⟩) (v := ?_) rfl (by kernel_rfl) (by kernel_rfl) (by kernel_rfl) (fun _ _ _ h => h) (Or.inl ⟨by rfl, ?_⟩) (by assumption) ?_
              rotate_left
              · intro w_ hSw; (try dsimp only at hSw); obtain ⟨cx0_, cx1_, cx2_, cx3_⟩ := HCX.out w_ hSw.2; go_simp <;> with_reducible rfl
              simp only [Act.put, List.setIfInBounds_toArray, List.set_cons_zero, List.set_cons_succ]
              refine wpAnyH_ready (rs := [6]) (by kernel_rfl) (by simp) ?_
              refine AllReadyH.cons (o := ⟨some 191, _, _, _, _, _⟩) rfl (fun K hK => ?_) ?_
              · go_simp
                obtain ⟨s0, s1⟩ := hHeld
                have hlo_ := HBA.out _ (HW4.out.trans (s1.mono HW4.out.size))
                have hpv_ : PathV _ (.slice PA rl pc) rp := ⟨PA, pc, by rw [HRL.out], HPA.out.under s1⟩
                refine (rroute1_any t a ⟨ri, rp, rg, rt⟩ (.slice PA rl pc) _ (HT.out _ hlo_) hpv_ HOK.out (by rw [HN1.out]; omega) (by rw [HN2.out]; omega) (by simp only; rw [HRL.out]; omega)).mono ?_
                rw [HEE.out]
                rintro e_ vs ⟨rfl, hbs⟩
                go_wp2_with fail
                refine hK.out _ _ ?_ (fun hHeld => ?_)
                · exact ⟨s0.under hbs s0.lt, s1.trans (hbs.mono s1.size)⟩
                clear hK K s0 s1
                try simp only [Act.put, List.setIfInBounds_toArray, List.set_cons_zero, List.set_cons_succ]
                refine wpAnyH_take (i := 7) (oi := ⟨some 13, _, _, _, _, _⟩) (v := ?_) rfl (by kernel_rfl) (by kernel_rfl) (by kernel_rfl) (fun _ _ _ h => h) (Or.inl ⟨by rfl, ?_⟩) (by assumption) ?_
                rotate_left
                · intro w_ hSw; (try dsimp only at hSw); go_simp <;> with_reducible rfl
                simp only [Act.put, List.setIfInBounds_toArray, List.set_cons_zero, List.set_cons_succ]
                refine wpAnyH_done (by kernel_rfl) ?_ _
                have HB5 := Lib.hid (HW4.out.trans (hHeld.2.mono HW4.out.size))
                have HB5W := Lib.hid hHeld.2
                clear hHeld
                by_cases hz : e = 0
                rotate_left
                · have e1 : (e == 0) = false := by simp [hz]
                  have e2 : (e != 0) = true := by simp [hz]
                  have hJ : routeAt t m = e := by rw [HRA.out, if_neg hz]
                  go_wp2
                  go_ret
                  have hE : cE = e := by rw [HR3.out, first_at hlt HF3.out (by rw [hJ]; exact hz)]; exact hJ
                  subst hE
                  exact ⟨by first | rfl | simp, HBA.out _ HB5.out⟩
                subst hz
                have HRA2 := Lib.hid (show routeAt t m = if ((t.routes.take m).any fun x => x.id == ri) = true then 5 else 0 from by rw [HRA.out, if_pos rfl])
                clear HRA
                have c3 : World.cell? vs ⟨w.heap.size, 3, none⟩ = some (.slice (some ⟨bk, off, none⟩) n3 a.cr) := (by have h_ := (H0.out vs HB5.out).cell 3; rw [← HAR.out, ← HN3.out]; exact h_)
                obtain ⟨d0, -, -, -⟩ := HCX.out vs HB5W.out
                have HRS := Lib.hid (HT.out _ (HBA.out _ HB5.out)).r
                obtain ⟨k1, hk1⟩ : ∃ k1, k1 = gk := ⟨_, rfl⟩
                subst hk1
                go_upto_region 36 with fail
                go_wp2
                go_loopg [14] m (fun kk v wl => ∃ l q : Nat, l ≤ m ∧ m - l ≤ kk ∧ v = .int .i64 l ∧ Hid (∀ (p : Nat) (y : Rt3), p < l → t.routes[p]? = some y → (y.id == ri) = false) ∧ wl = vs.drewN q)
                case atStart => exact ⟨0, 0, by omega, by omega, rfl, Lib.hid (fun p y h => absurd h (by omega)), rfl⟩
                case round =>
                  obtain ⟨l, q, hl, hlk, rfl, HNO, rfl⟩ := hrel
                  by_cases hlm : l < m
                  rotate_left
                  · have x1 : ¬ (l : Int) < m := by omega
                    obtain rfl : l = m := by omega
                    have hJ : routeAt t l = 0 := by rw [HRA2.out, if_neg (by rw [any_no13 HNO.out]; decide)]
                    go_wp2
                    go_roundg (k1 - 1)
                    case measure => omega
                    case rel =>
                      refine ⟨l + 1, by omega, by omega, by go_num, Lib.hid ?_, below_draws HB5.out q⟩
                      show (if firstE (routeAt t) l = 0 then routeAt t l else firstE (routeAt t) l) = 0
                      rw [if_pos HF3.out, hJ]
                  obtain ⟨y, hy⟩ : ∃ y, t.routes[l]? = some y := ⟨_, List.getElem?_eq_getElem (by rw [HN3.out]; omega)⟩
                  have HY := Lib.hid hy
                  obtain ⟨b2, o2, P2, p2, hb2, -, g0, -, -, -⟩ := HRS.out.at_ hy
                  rw [HAR.out] at hb2
                  injection hb2 with hb2
                  injection hb2 with hb3 hb4 _
                  subst hb3 hb4
                  obtain ⟨yi, hyi⟩ : ∃ e, y.id = e := ⟨_, rfl⟩
                  have HYI := Lib.hid hyi
                  rw [hyi] at g0
                  clear hy hyi
                  have v0 : (0 : Int) ≤ l := by omega
                  have v1 : (l : Int) < n3 := by omega
                  by_cases hee : yi = ri
                  · subst hee
                    go_upto_region 39 with fail
                    go_quiet (fail)
                    go_wp2
                    go_ret
                    have hJ : routeAt t m = 5 := by rw [HRA2.out, if_pos (any_yes13 hlm HY.out (by rw [HYI.out]; simp))]
                    have hE : cE = 5 := by rw [HR3.out, first_at hlt HF3.out (by rw [hJ]; decide)]; exact hJ
                    subst hE
                    exact ⟨by first | rfl | simp, HBA.out _ (by first | exact below_draws HB5.out _ | (rw [World.drewN_drewN]; exact below_draws HB5.out _))⟩
                  · have e1 : (yi == ri) = false := by simp [hee]
                    go_upto_region 39 with fail
                    go_quiet (fail)
                    go_wp2
                    go_roundg (gk - 1)
                    case measure => omega
                    case rel =>
                      refine ⟨l + 1, _, by omega, by omega, by go_num, Lib.hid (fun p z hp hz => ?_), by first | rfl | rw [World.drewN_drewN]⟩
                      by_cases hpl : p = l
                      · rw [hpl, HY.out] at hz
                        injection hz with hz
                        rw [← hz, HYI.out]
                        exact e1
                      · exact HNO.out p z (by omega) hz
              exact AllReadyH.nil
          obtain ⟨b, hb⟩ : ∃ b, t.bals[k]? = some b := ⟨_, List.getElem?_eq_getElem (by rw [HN2.out]; exact hlt)⟩
          have HBX := Lib.hid hb
          have HBE := Lib.hid (balE_at hb)
          obtain ⟨bk, off, hab, d0, d1, d2⟩ := (HT.out wr (HBA.out wr HW3.out)).b.bal hb
          rw [hab] at c2
          obtain ⟨bi, be, ba⟩ := b
          dsimp only at *
          have HAB := Lib.hid hab
          have y0 : (0 : Int) ≤ k := by omega
          have y1 : (k : Int) < n2 := by omega
          clear hb hab
          have hm5 : Has (wr.alloc (.cells #[.int .i64 0, .int .i64 0, .int .i64 0] 80)) wr.heap.size 80 #[.int .i64 0, .int .i64 0, .int .i64 0] := Has.made _ _ _
          have HM5 := Lib.hid hm5
          obtain ⟨w6, hw6⟩ : ∃ w6, (wr.alloc (.cells #[.int .i64 0, .int .i64 0, .int .i64 0] 80)).setRow wr.heap.size #[.int .i64 bi, .int .i64 be, .int .i64 ba] = w6 := ⟨_, rfl⟩
          have hb6 : Below wr.heap.size wr w6 := by rw [← hw6]; exact below_row (g := wr.heap.size) ((Below.refl _ _).alloc (Nat.le_refl _) _) (Nat.le_refl _) _
          have HX6 := Lib.hid (show Has w6 wr.heap.size 80 #[.int .i64 bi, .int .i64 be, .int .i64 ba] from by rw [← hw6]; exact has_row11 HM5.out _)
          have HB6 := Lib.hid (HW3.out.trans (hb6.mono HW3.out.size))
          have HWW := Lib.hid hw6
          clear hw6 hm5 hb6
          go_upto_region 22 with (with_reducible refine wpList_store_rowTo (o := ⟨none, _, _, _, _, _⟩) rfl 80 _ _ rfl rfl (wr.heap.size) #[.int .i64 bi, .int .i64 be, .int .i64 ba] rfl rfl 80 _ (HM5.out).raw11 (by kernel_rfl) (by kernel_rfl) (by kernel_rfl) ?_)
          rw [HWW.out]
          clear HWW HM5 d0 d1 d2 c2
          have b1 : w6.cell? ⟨wr.heap.size, 1, none⟩ = some (.int .i64 be) := HX6.out.cell 1
          obtain ⟨bq, hbq⟩ : ∃ b, edgeB t be = b := ⟨_, rfl⟩
          have HBQ := Lib.hid hbq
          rw [hbq] at HBE
          clear hbq
          obtain ⟨gb, hgb⟩ : ∃ g, wr.heap.size = g := ⟨_, rfl⟩
          rw [hgb] at b1 HX6
          simp only [hgb]
          clear hgb
          go_wp2_with (with_reducible refine wpList_load_row (o := ⟨some 132, _, _, _, _, _⟩) rfl 27 _ rfl (w.heap.size) rfl 27 (tpC t a) (0, 0) _ ((H0.out w6 HB6.out)).raw11 Tryz.underlying27 rfl (by kernel_rfl) ?_)
          refine (redge_any t a be w6).mono ?_
          rw [HBQ.out]
          rintro e w7 ⟨rfl, hb7⟩
          have HB7 := Lib.hid (HB6.out.trans (hb7.mono HB6.out.size))
          have HX7 := Lib.hid (HX6.out.under hb7 HX6.out.lt)
          clear hb7 HX6 b1
          have e0 : w7.cell? ⟨gb, 0, none⟩ = some (.int .i64 bi) := HX7.out.cell 0
          have e1 : w7.cell? ⟨gb, 1, none⟩ = some (.int .i64 be) := HX7.out.cell 1
          have e2 : w7.cell? ⟨gb, 2, none⟩ = some (.int .i64 ba) := HX7.out.cell 2
          by_cases z0 : bi < 0
          · skip
            go_upto_region 23 with fail
            go_quiet (fail)
            go_wp2
            go_ret
            have hJ : balE t k = 1 := by rw [HBE.out, if_neg (by simp; omega)]
            have hE : cE = 1 := by rw [HR2.out, if_neg (by rw [first_at hlt HF2.out (by rw [hJ]; decide), hJ]; decide), first_at hlt HF2.out (by rw [hJ]; decide)]; exact hJ
            subst hE
            exact ⟨by first | rfl | simp, HBA.out _ (by first | exact below_draws HB7.out _ | (rw [World.drewN_drewN]; exact below_draws HB7.out _))⟩
          have g0 : decide (bi < 0) = false := decide_eq_false z0
          by_cases z1 : 16777214 < bi
          · skip
            go_upto_region 23 with fail
            go_quiet (fail)
            go_wp2
            go_ret
            have hJ : balE t k = 1 := by rw [HBE.out, if_neg (by simp; omega)]
            have hE : cE = 1 := by rw [HR2.out, if_neg (by rw [first_at hlt HF2.out (by rw [hJ]; decide), hJ]; decide), first_at hlt HF2.out (by rw [hJ]; decide)]; exact hJ
            subst hE
            exact ⟨by first | rfl | simp, HBA.out _ (by first | exact below_draws HB7.out _ | (rw [World.drewN_drewN]; exact below_draws HB7.out _))⟩
          have g1 : decide (16777214 < bi) = false := decide_eq_false z1
          cases bq with
          | false =>
            go_upto_region 23 with fail
            go_quiet (fail)
            go_wp2
            go_ret
            have hJ : balE t k = 1 := by rw [HBE.out, if_neg (by simp)]
            have hE : cE = 1 := by rw [HR2.out, if_neg (by rw [first_at hlt HF2.out (by rw [hJ]; decide), hJ]; decide), first_at hlt HF2.out (by rw [hJ]; decide)]; exact hJ
            subst hE
            exact ⟨by first | rfl | simp, HBA.out _ (by first | exact below_draws HB7.out _ | (rw [World.drewN_drewN]; exact below_draws HB7.out _))⟩
          | true =>
            by_cases z2 : ba < 0
            · skip
              go_upto_region 23 with fail
              go_quiet (fail)
              go_wp2
              go_ret
              have hJ : balE t k = 1 := by rw [HBE.out, if_neg (by simp; omega)]
              have hE : cE = 1 := by rw [HR2.out, if_neg (by rw [first_at hlt HF2.out (by rw [hJ]; decide), hJ]; decide), first_at hlt HF2.out (by rw [hJ]; decide)]; exact hJ
              subst hE
              exact ⟨by first | rfl | simp, HBA.out _ (by first | exact below_draws HB7.out _ | (rw [World.drewN_drewN]; exact below_draws HB7.out _))⟩
            have g2 : decide (ba < 0) = false := decide_eq_false z2
            have hed : 0 ≤ be ∧ be < t.edges.length := by have h_ := HBQ.out; unfold edgeB at h_; simpa using h_
            obtain ⟨en, hen⟩ : ∃ e : Nat, be = e := ⟨be.toNat, by omega⟩
            have hel : en < t.edges.length := by omega
            obtain ⟨bke, oe, hae, ce⟩ := (HT.out _ (HBA.out _ HB7.out)).e.edge hel
            have c0 : w7.cell? ⟨w.heap.size, 0, none⟩ = some (.slice (some ⟨bke, oe, none⟩) n0 a.ce) := (by have h_ := (H0.out w7 HB7.out).cell 0; rw [← hae, ← HN0.out]; exact h_)
            obtain ⟨q, hq⟩ : ∃ q, t.edges.getD en 0 = q := ⟨_, rfl⟩
            rw [hq] at ce
            have hbq2 : t.edges.getD be.toNat 0 = q := by rw [hen]; exact hq
            rw [hbq2] at HBE
            subst hen
            have v0 : (0 : Int) ≤ en := by omega
            have v1 : (en : Int) < n0 := by have := HN0.out; omega
            clear hed hel hae hq hbq2
            by_cases z3 : q < ba
            · skip
              go_upto_region 23 with fail
              go_quiet (fail)
              go_wp2
              go_ret
              have hJ : balE t k = 1 := by rw [HBE.out, if_neg (by simp; omega)]
              have hE : cE = 1 := by rw [HR2.out, if_neg (by rw [first_at hlt HF2.out (by rw [hJ]; decide), hJ]; decide), first_at hlt HF2.out (by rw [hJ]; decide)]; exact hJ
              subst hE
              exact ⟨by first | rfl | simp, HBA.out _ (by first | exact below_draws HB7.out _ | (rw [World.drewN_drewN]; exact below_draws HB7.out _))⟩
            have g3 : decide (q < ba) = false := decide_eq_false z3
            have HZ := Lib.hid (show 0 ≤ bi ∧ bi ≤ 16777214 ∧ 0 ≤ ba ∧ ba ≤ q by omega)
            go_upto_region 23 with fail
            go_quiet (fail)
            clear z0 z1 z2 z3 v0 v1 c0 ce e1 e2 g0 g1 g2 g3
            have HBE2 := Lib.hid (show balE t k = if ((t.bals.take k).any fun x => x.id == bi) = true then 5 else 0 from by rw [HBE.out, if_pos (by have h_ := HZ.out; simp; omega)])
            clear HBE HZ
            have c2 : w7.cell? ⟨w.heap.size, 2, none⟩ = some (.slice (some ⟨bk, off, none⟩) n2 a.cb) := (by have h_ := (H0.out w7 HB7.out).cell 2; rw [← HAB.out, ← HN2.out]; exact h_)
            have HBS := Lib.hid (HT.out _ (HBA.out _ HB7.out)).b
            obtain ⟨k1, hk1⟩ : ∃ k1, k1 = gk := ⟨_, rfl⟩
            subst hk1
            go_upto_region 25 with fail
            go_wp2
            go_loopg [11] k (fun kk v wl => ∃ m q : Nat, m ≤ k ∧ k - m ≤ kk ∧ v = .int .i64 m ∧ Hid (∀ (l : Nat) (y : Bl3), l < m → t.bals[l]? = some y → (y.id == bi) = false) ∧ wl = w7.drewN q)
            case atStart => exact ⟨0, _, by omega, by omega, rfl, Lib.hid (fun l y h => absurd h (by omega)), rfl⟩
            case round =>
              obtain ⟨m, q, hm, hmk, rfl, HNO, rfl⟩ := hrel
              by_cases hml : m < k
              rotate_left
              · have x1 : ¬ (m : Int) < k := by omega
                obtain rfl : m = k := by omega
                have hJ : balE t m = 0 := by rw [HBE2.out, if_neg (by rw [any_no13 HNO.out]; decide)]
                go_wp2
                go_roundg (k1 - 1)
                case measure => omega
                case rel =>
                  refine ⟨m + 1, by omega, by omega, by go_num, Lib.hid ?_, below_draws HB7.out q⟩
                  show (if firstE (balE t) m = 0 then balE t m else firstE (balE t) m) = 0
                  rw [if_pos HF2.out, hJ]
              obtain ⟨y, hy⟩ : ∃ y, t.bals[m]? = some y := ⟨_, List.getElem?_eq_getElem (by rw [HN2.out]; omega)⟩
              have HY := Lib.hid hy
              obtain ⟨b2, o2, hb2, g0, -, -⟩ := HBS.out.bal hy
              rw [HAB.out] at hb2
              injection hb2 with hb2
              injection hb2 with hb3 hb4 _
              subst hb3 hb4
              obtain ⟨yi, hyi⟩ : ∃ e, y.id = e := ⟨_, rfl⟩
              have HYI := Lib.hid hyi
              rw [hyi] at g0
              clear hy hyi
              have v0 : (0 : Int) ≤ m := by omega
              have v1 : (m : Int) < n2 := by omega
              by_cases hee : yi = bi
              · subst hee
                go_upto_region 28 with fail
                go_quiet (fail)
                go_wp2
                go_ret
                have hJ : balE t k = 5 := by rw [HBE2.out, if_pos (any_yes13 hml HY.out (by rw [HYI.out]; simp))]
                have hE : cE = 5 := by rw [HR2.out, if_neg (by rw [first_at hlt HF2.out (by rw [hJ]; decide), hJ]; decide), first_at hlt HF2.out (by rw [hJ]; decide)]; exact hJ
                subst hE
                exact ⟨by first | rfl | simp, HBA.out _ (by first | exact below_draws HB7.out _ | (rw [World.drewN_drewN]; exact below_draws HB7.out _))⟩
              · have e1 : (yi == bi) = false := by simp [hee]
                go_upto_region 28 with fail
                go_quiet (fail)
                go_wp2
                go_roundg (gk - 1)
                case measure => omega
                case rel =>
                  refine ⟨m + 1, _, by omega, by omega, by go_num, Lib.hid (fun l z hl hz => ?_), by first | rfl | rw [World.drewN_drewN]⟩
                  by_cases hlm : l = m
                  · rw [hlm, HY.out] at hz
                    injection hz with hz
                    rw [← hz, HYI.out]
                    exact e1
                  · exact HNO.out l z (by omega) hz
      obtain ⟨j, hj⟩ : ∃ j, t.joints[i]? = some j := ⟨_, List.getElem?_eq_getElem (by rw [HN1.out]; exact hlt)⟩
      have HJX := Lib.hid hj
      have HJA := Lib.hid (jointE_at hj)
      obtain ⟨bk, off, haj, -, -, -, -⟩ := HT0.out.j.joint hj
      have HCX := Lib.hid (fun W (hW : Below w.heap.size w W) => (show W.cell? ⟨bk, off + i * 4, none⟩ = some (.int .i64 j.a.1) ∧ W.cell? ⟨bk, off + i * 4 + 1, none⟩ = some (.int .i64 j.a.2) ∧ W.cell? ⟨bk, off + i * 4 + 2, none⟩ = some (.int .i64 j.b.1) ∧ W.cell? ⟨bk, off + i * 4 + 3, none⟩ = some (.int .i64 j.b.2) from by obtain ⟨b_, o_, e_, h_⟩ := (HT.out W hW).j.joint hj; rw [haj] at e_; injection e_ with e_; injection e_ with e1_ e2_ _; subst e1_ e2_; exact h_))
      have HAJ := Lib.hid haj
      rw [haj] at c1
      have q1 := eq_end13 j.a j.b
      obtain ⟨ja, jb⟩ := j
      dsimp only at *
      obtain ⟨ea, hea⟩ : ∃ b, endB t ja = b := ⟨_, rfl⟩
      obtain ⟨eb, heb⟩ : ∃ b, endB t jb = b := ⟨_, rfl⟩
      obtain ⟨eq, heq⟩ : ∃ b, eqE ja jb = b := ⟨_, rfl⟩
      obtain ⟨tw, htw⟩ : ∃ b, joinB (t.joints.take i) ja jb = b := ⟨_, rfl⟩
      rw [heq] at q1
      rw [hea, heb, heq, htw] at HJA
      have HEA := Lib.hid hea
      have HEB := Lib.hid heb
      have HTW := Lib.hid htw
      have y0 : (0 : Int) ≤ i := by omega
      have y1 : (i : Int) < n1 := by omega
      unfold endA at q1
      clear hj haj hea heb heq htw
      go_upto_region 11 with fail
      clear c1
      refine wp_region_held_drew (S := (fun W_ => Has W_ (w.heap.size) 27 (tpC t a) ∧ Below wr.heap.size wr W_)) (by kernel_rfl) ?_ (fun hHeld => ?_)
      · exact ⟨(H0.out _ HW.out).draw, below_dr11 (Below.refl _ _)⟩
      refine wpAnyH_take (i := 0) (oi := ⟨some 65, _, _, _, _, _⟩) (v := .agg (tpC t a)) rfl (by kernel_rfl) (by kernel_rfl) (by kernel_rfl) (fun _ _ _ h => h) (yields_load_row11 27 _ rfl (w.heap.size) rfl 27 (tpC t a) _ (fun _ ⟨h_, _⟩ => h_) Tryz.underlying27 rfl (by kernel_rfl) (by rfl)) (by assumption) ?_
      simp only [Act.put, List.setIfInBounds_toArray, List.set_cons_zero, List.set_cons_succ]
      refine wpAnyH_take (i := 1) (oi := ⟨some 66, _, _, _, _, _⟩) (v := ?_) rfl (by kernel_rfl) (by kernel_rfl) (by kernel_rfl) (fun _ _ _ h => h) (Or.inl ⟨by rfl, ?_⟩) (by assumption) ?_
      rotate_left
      · intro w_ hSw; (try dsimp only at hSw); go_simp <;> with_reducible rfl
      simp only [Act.put, List.setIfInBounds_toArray, List.set_cons_zero, List.set_cons_succ]
      refine wpAnyH_take (i := 2) (oi := ⟨some 67, _, _, _, _, _⟩) (v := ?_) rfl (by kernel_rfl) (by kernel_rfl) (by kernel_rfl) (fun _ _ _ h => h) (Or.inl ⟨by rfl, ?_⟩) (by assumption) ?_
      rotate_left
      · intro w_ hSw; (try dsimp only at hSw); have c1_ : w_.cell? ⟨w.heap.size, 1, none⟩ = some (.slice (some ⟨bk, off, none⟩) n1 a.cj) := (by have h_ := hSw.1.cell 1; rw [← HAJ.out, ← HN1.out]; exact h_); go_simp <;> with_reducible rfl
      simp only [Act.put, List.setIfInBounds_toArray, List.set_cons_zero, List.set_cons_succ]
      refine wpAnyH_take (i := 3) (oi := ⟨some 68, _, _, _, _, _⟩) (v := ?_) rfl (by kernel_rfl) (by kernel_rfl) (by kernel_rfl) (fun _ _ _ h => h) (Or.inl ⟨by rfl, ?_⟩) (by assumption) ?_
      rotate_left
      · intro w_ hSw; (try dsimp only at hSw); go_simp <;> with_reducible rfl
      simp only [Act.put, List.setIfInBounds_toArray, List.set_cons_zero, List.set_cons_succ]
      refine wpAnyH_take (i := 4) (oi := ⟨some 69, _, _, _, _, _⟩) (v := ?_) rfl (by kernel_rfl) (by kernel_rfl) (by kernel_rfl) (fun _ _ _ h => h) (Or.inl ⟨by rfl, ?_⟩) (by assumption) ?_
      rotate_left
      · intro w_ hSw; (try dsimp only at hSw); go_simp <;> with_reducible rfl
      simp only [Act.put, List.setIfInBounds_toArray, List.set_cons_zero, List.set_cons_succ]
      refine wpAnyH_take (i := 5) (oi := ⟨some 70, _, _, _, _, _⟩) (v := ?_) rfl (by kernel_rfl) (by kernel_rfl) (by kernel_rfl) (fun _ _ _ h => h) (Or.inl ⟨by rfl, ?_⟩) (by assumption) ?_
      rotate_left
      · intro w_ hSw; (try dsimp only at hSw); go_simp <;> with_reducible rfl
      simp only [Act.put, List.setIfInBounds_toArray, List.set_cons_zero, List.set_cons_succ]
      refine wpAnyH_take (i := 6) (oi := ⟨some 71, _, _, _, _, _⟩) (v := ?_) rfl (by kernel_rfl) (by kernel_rfl) (by kernel_rfl) (fun _ _ _ h => h) (Or.inl ⟨by rfl, ?_⟩) (by assumption) ?_
      rotate_left
      · intro w_ hSw; (try dsimp only at hSw); obtain ⟨cx0_, cx1_, cx2_, cx3_⟩ := HCX.out w_ (HBA.out w_ (HW.out.trans (hSw.2.mono HW.out.size))); go_simp <;> with_reducible rfl
      simp only [Act.put, List.setIfInBounds_toArray, List.set_cons_zero, List.set_cons_succ]
      refine wpAnyH_ready (rs := [7]) (by kernel_rfl) (by simp) ?_
      refine AllReadyH.cons (o := ⟨some 72, _, _, _, _, _⟩) rfl (fun K hK => ?_) ?_
      · go_simp
        obtain ⟨s0, s1⟩ := hHeld
        refine (rend_any t a ja _).mono ?_
        rw [HEA.out]
        rintro e_ vs ⟨rfl, hbs⟩
        go_wp2_with fail
        refine hK.out _ _ ?_ (fun hHeld => ?_)
        · exact ⟨s0.under hbs s0.lt, s1.trans (hbs.mono s1.size)⟩
        clear hK K s0 s1
        try simp only [Act.put, List.setIfInBounds_toArray, List.set_cons_zero, List.set_cons_succ]
        refine wpAnyH_take (i := 8) (oi := ⟨some 5, _, _, _, _, _⟩) (v := ?_) rfl (by kernel_rfl) (by kernel_rfl) (by kernel_rfl) (fun _ _ _ h => h) (Or.inl ⟨by rfl, ?_⟩) (by assumption) ?_
        rotate_left
        · intro w_ hSw; (try dsimp only at hSw); go_simp <;> with_reducible rfl
        simp only [Act.put, List.setIfInBounds_toArray, List.set_cons_zero, List.set_cons_succ]
        refine wpAnyH_done (by kernel_rfl) ?_ _
        have HA1 := Lib.hid hHeld
        clear hHeld
        go_upto_region 12 with fail
        refine wp_region_held_drew (S := (fun W_ => Has W_ (w.heap.size) 27 (tpC t a) ∧ Below wr.heap.size wr W_)) (by kernel_rfl) ?_ (fun hHeld => ?_)
        · exact ⟨HA1.out.1.draw, below_dr11 HA1.out.2⟩
        refine wpAnyH_take (i := 0) (oi := ⟨some 73, _, _, _, _, _⟩) (v := .agg (tpC t a)) rfl (by kernel_rfl) (by kernel_rfl) (by kernel_rfl) (fun _ _ _ h => h) (yields_load_row11 27 _ rfl (w.heap.size) rfl 27 (tpC t a) _ (fun _ ⟨h_, _⟩ => h_) Tryz.underlying27 rfl (by kernel_rfl) (by rfl)) (by assumption) ?_
        simp only [Act.put, List.setIfInBounds_toArray, List.set_cons_zero, List.set_cons_succ]
        refine wpAnyH_take (i := 1) (oi := ⟨some 74, _, _, _, _, _⟩) (v := ?_) rfl (by kernel_rfl) (by kernel_rfl) (by kernel_rfl) (fun _ _ _ h => h) (Or.inl ⟨by rfl, ?_⟩) (by assumption) ?_
        rotate_left
        · intro w_ hSw; (try dsimp only at hSw); go_simp <;> with_reducible rfl
        simp only [Act.put, List.setIfInBounds_toArray, List.set_cons_zero, List.set_cons_succ]
        refine wpAnyH_take (i := 2) (oi := ⟨some 75, _, _, _, _, _⟩) (v := ?_) rfl (by kernel_rfl) (by kernel_rfl) (by kernel_rfl) (fun _ _ _ h => h) (Or.inl ⟨by rfl, ?_⟩) (by assumption) ?_
        rotate_left
        · intro w_ hSw; (try dsimp only at hSw); have c1_ : w_.cell? ⟨w.heap.size, 1, none⟩ = some (.slice (some ⟨bk, off, none⟩) n1 a.cj) := (by have h_ := hSw.1.cell 1; rw [← HAJ.out, ← HN1.out]; exact h_); go_simp <;> with_reducible rfl
        simp only [Act.put, List.setIfInBounds_toArray, List.set_cons_zero, List.set_cons_succ]
        refine wpAnyH_take (i := 3) (oi := ⟨some 76, _, _, _, _, _⟩) (v := ?_) rfl (by kernel_rfl) (by kernel_rfl) (by kernel_rfl) (fun _ _ _ h => h) (Or.inl ⟨by rfl, ?_⟩) (by assumption) ?_
        rotate_left
        · intro w_ hSw; (try dsimp only at hSw); go_simp <;> with_reducible rfl
        simp only [Act.put, List.setIfInBounds_toArray, List.set_cons_zero, List.set_cons_succ]
        refine wpAnyH_take (i := 4) (oi := ⟨some 77, _, _, _, _, _⟩) (v := ?_) rfl (by kernel_rfl) (by kernel_rfl) (by kernel_rfl) (fun _ _ _ h => h) (Or.inl ⟨by rfl, ?_⟩) (by assumption) ?_
        rotate_left
        · intro w_ hSw; (try dsimp only at hSw); go_simp <;> with_reducible rfl
        simp only [Act.put, List.setIfInBounds_toArray, List.set_cons_zero, List.set_cons_succ]
        refine wpAnyH_take (i := 5) (oi := ⟨some 78, _, _, _, _, _⟩) (v := ?_) rfl (by kernel_rfl) (by kernel_rfl) (by kernel_rfl) (fun _ _ _ h => h) (Or.inl ⟨by rfl, ?_⟩) (by assumption) ?_
        rotate_left
        · intro w_ hSw; (try dsimp only at hSw); go_simp <;> with_reducible rfl
        simp only [Act.put, List.setIfInBounds_toArray, List.set_cons_zero, List.set_cons_succ]
        refine wpAnyH_take (i := 6) (oi := ⟨some 79, _, _, _, _, _⟩) (v := ?_) rfl (by kernel_rfl) (by kernel_rfl) (by kernel_rfl) (fun _ _ _ h => h) (Or.inl ⟨by rfl, ?_⟩) (by assumption) ?_
        rotate_left
        · intro w_ hSw; (try dsimp only at hSw); obtain ⟨cx0_, cx1_, cx2_, cx3_⟩ := HCX.out w_ (HBA.out w_ (HW.out.trans (hSw.2.mono HW.out.size))); go_simp <;> with_reducible rfl
        simp only [Act.put, List.setIfInBounds_toArray, List.set_cons_zero, List.set_cons_succ]
        refine wpAnyH_ready (rs := [7]) (by kernel_rfl) (by simp) ?_
        refine AllReadyH.cons (o := ⟨some 80, _, _, _, _, _⟩) rfl (fun K hK => ?_) ?_
        · go_simp
          obtain ⟨s0, s1⟩ := hHeld
          refine (rend_any t a jb _).mono ?_
          rw [HEB.out]
          rintro e_ vs ⟨rfl, hbs⟩
          go_wp2_with fail
          refine hK.out _ _ ?_ (fun hHeld => ?_)
          · exact ⟨s0.under hbs s0.lt, s1.trans (hbs.mono s1.size)⟩
          clear hK K s0 s1
          try simp only [Act.put, List.setIfInBounds_toArray, List.set_cons_zero, List.set_cons_succ]
          refine wpAnyH_take (i := 8) (oi := ⟨some 6, _, _, _, _, _⟩) (v := ?_) rfl (by kernel_rfl) (by kernel_rfl) (by kernel_rfl) (fun _ _ _ h => h) (Or.inl ⟨by rfl, ?_⟩) (by assumption) ?_
          rotate_left
          · intro w_ hSw; (try dsimp only at hSw); go_simp <;> with_reducible rfl
          simp only [Act.put, List.setIfInBounds_toArray, List.set_cons_zero, List.set_cons_succ]
          refine wpAnyH_done (by kernel_rfl) ?_ _
          have HB1 := Lib.hid hHeld
          clear hHeld HA1
          have HWV := Lib.hid (HW.out.trans (HB1.out.2.mono HW.out.size))
          obtain ⟨d0, d1, d2, d3⟩ := HCX.out _ (HBA.out _ HWV.out)
          have c1 : World.cell? vs ⟨w.heap.size, 1, none⟩ = some (.slice (some ⟨bk, off, none⟩) n1 a.cj) := (by have h_ := HB1.out.1.cell 1; rw [← HAJ.out, ← HN1.out]; exact h_)
          cases ea with
          | false =>
            go_upto_region 13 with fail
            go_quiet (fail)
            go_wp2
            go_ret
            have hJ : jointE t i = 1 := by rw [HJA.out]; simp
            have hE : cE = 1 := by rw [HR1.out, if_neg (by rw [first_at hlt HF.out (by rw [hJ]; decide), hJ]; decide), first_at hlt HF.out (by rw [hJ]; decide)]; exact hJ
            subst hE
            exact ⟨by first | rfl | simp, HBA.out _ (by first | exact below_draws HWV.out _ | (rw [World.drewN_drewN]; exact below_draws HWV.out _))⟩
          | true =>
            cases eb with
            | false =>
              go_upto_region 13 with fail
              go_quiet (fail)
              go_wp2
              go_ret
              have hJ : jointE t i = 1 := by rw [HJA.out]; simp
              have hE : cE = 1 := by rw [HR1.out, if_neg (by rw [first_at hlt HF.out (by rw [hJ]; decide), hJ]; decide), first_at hlt HF.out (by rw [hJ]; decide)]; exact hJ
              subst hE
              exact ⟨by first | rfl | simp, HBA.out _ (by first | exact below_draws HWV.out _ | (rw [World.drewN_drewN]; exact below_draws HWV.out _))⟩
            | true =>
              cases eq with
              | true =>
                go_upto_region 13 with fail
                go_quiet (fail)
                go_wp2
                go_ret
                have hJ : jointE t i = 1 := by rw [HJA.out]; simp
                have hE : cE = 1 := by rw [HR1.out, if_neg (by rw [first_at hlt HF.out (by rw [hJ]; decide), hJ]; decide), first_at hlt HF.out (by rw [hJ]; decide)]; exact hJ
                subst hE
                exact ⟨by first | rfl | simp, HBA.out _ (by first | exact below_draws HWV.out _ | (rw [World.drewN_drewN]; exact below_draws HWV.out _))⟩
              | false =>
                go_upto_region 13 with fail
                go_quiet (fail)
                go_upto_region 15 with fail
                clear c1 d0 d1 d2 d3 q1
                have HB2 := Lib.hid (show Has (vs.drewN nq) (w.heap.size) 27 (tpC t a) ∧ Below wr.heap.size wr (vs.drewN nq) from ⟨HB1.out.1, below_draws HB1.out.2 nq⟩)
                clear HB1 HWV
                have hic : (i : Int) ≤ a.cj := by have h1_ := HCJ.out; have h2_ := HN1.out; omega
                refine wp_region_held_drew (S := (fun W_ => Has W_ (w.heap.size) 27 (tpC t a) ∧ Below wr.heap.size wr W_)) (by kernel_rfl) ?_ (fun hHeld => ?_)
                · exact ⟨HB2.out.1.draw, below_dr11 HB2.out.2⟩
                refine wpAnyH_take (i := 0) (oi := ⟨some 102, _, _, _, _, _⟩) (v := ?_) rfl (by kernel_rfl) (by kernel_rfl) (by kernel_rfl) (fun _ _ _ h => h) (Or.inl ⟨by rfl, ?_⟩) (by assumption) ?_
                rotate_left
                · intro w_ hSw; (try dsimp only at hSw); go_simp <;> with_reducible rfl
                simp only [Act.put, List.setIfInBounds_toArray, List.set_cons_zero, List.set_cons_succ]
                refine wpAnyH_take (i := 1) (oi := ⟨some 103, _, _, _, _, _⟩) (v := ?_) rfl (by kernel_rfl) (by kernel_rfl) (by kernel_rfl) (fun _ _ _ h => h) (Or.inl ⟨by rfl, ?_⟩) (by assumption) ?_
                rotate_left
                · intro w_ hSw; (try dsimp only at hSw); have c1_ : w_.cell? ⟨w.heap.size, 1, none⟩ = some (.slice (some ⟨bk, off, none⟩) n1 a.cj) := (by have h_ := hSw.1.cell 1; rw [← HAJ.out, ← HN1.out]; exact h_); go_simp <;> with_reducible rfl
                simp only [Act.put, List.setIfInBounds_toArray, List.set_cons_zero, List.set_cons_succ]
                refine wpAnyH_take (i := 2) (oi := ⟨some 104, _, _, _, _, _⟩) (v := ?_) rfl (by kernel_rfl) (by kernel_rfl) (by kernel_rfl) (fun _ _ _ h => h) (Or.inl ⟨by rfl, ?_⟩) (by assumption) ?_
                rotate_left
                · intro w_ hSw; (try dsimp only at hSw); go_simp <;> with_reducible rfl
                simp only [Act.put, List.setIfInBounds_toArray, List.set_cons_zero, List.set_cons_succ]
                refine wpAnyH_take (i := 3) (oi := ⟨some 105, _, _, _, _, _⟩) (v := ?_) rfl (by kernel_rfl) (by kernel_rfl) (by kernel_rfl) (fun _ _ _ h => h) (Or.inl ⟨by rfl, ?_⟩) (by assumption) ?_
                rotate_left
                · intro w_ hSw; (try dsimp only at hSw); go_simp <;> with_reducible rfl
                simp only [Act.put, List.setIfInBounds_toArray, List.set_cons_zero, List.set_cons_succ]
                refine wpAnyH_take (i := 4) (oi := ⟨some 106, _, _, _, _, _⟩) (v := ?_) rfl (by kernel_rfl) (by kernel_rfl) (by kernel_rfl) (fun _ _ _ h => h) (Or.inl ⟨by rfl, ?_⟩) (by assumption) ?_
                rotate_left
                · intro w_ hSw; (try dsimp only at hSw); go_simp <;> with_reducible rfl
                simp only [Act.put, List.setIfInBounds_toArray, List.set_cons_zero, List.set_cons_succ]
                refine wpAnyH_take (i := 5) (oi := ⟨some 107, _, _, _, _, _⟩) (v := ?_) rfl (by kernel_rfl) (by kernel_rfl) (by kernel_rfl) (fun _ _ _ h => h) (Or.inl ⟨by rfl, ?_⟩) (by assumption) ?_
                rotate_left
                · intro w_ hSw; (try dsimp only at hSw); have c1_ : w_.cell? ⟨w.heap.size, 1, none⟩ = some (.slice (some ⟨bk, off, none⟩) n1 a.cj) := (by have h_ := hSw.1.cell 1; rw [← HAJ.out, ← HN1.out]; exact h_); go_simp <;> with_reducible rfl
                simp only [Act.put, List.setIfInBounds_toArray, List.set_cons_zero, List.set_cons_succ]
                refine wpAnyH_take (i := 6) (oi := ⟨some 108, _, _, _, _, _⟩) (v := ?_) rfl (by kernel_rfl) (by kernel_rfl) (by kernel_rfl) (fun _ _ _ h => h) (Or.inl ⟨by rfl, ?_⟩) (by assumption) ?_
                rotate_left
                · intro w_ hSw; (try dsimp only at hSw); go_simp <;> with_reducible rfl
                simp only [Act.put, List.setIfInBounds_toArray, List.set_cons_zero, List.set_cons_succ]
                refine wpAnyH_take (i := 7) (oi := ⟨some 109, _, _, _, _, _⟩) (v := ?_) rfl (by kernel_rfl) (by kernel_rfl) (by kernel_rfl) (fun _ _ _ h => h) (Or.inl ⟨by rfl, ?_⟩) (by assumption) ?_
                rotate_left
                · intro w_ hSw; (try dsimp only at hSw); go_simp <;> with_reducible rfl
                simp only [Act.put, List.setIfInBounds_toArray, List.set_cons_zero, List.set_cons_succ]
                refine wpAnyH_take (i := 8) (oi := ⟨some 110, _, _, _, _, _⟩) (v := ?_) rfl (by kernel_rfl) (by kernel_rfl) (by kernel_rfl) (fun _ _ _ h => h) (Or.inl ⟨by rfl, ?_⟩) (by assumption) ?_
                rotate_left
                · intro w_ hSw; (try dsimp only at hSw); go_simp <;> with_reducible rfl
                simp only [Act.put, List.setIfInBounds_toArray, List.set_cons_zero, List.set_cons_succ]
                refine wpAnyH_take (i := 9) (oi := ⟨some 111, _, _, _, _, _⟩) (v := ?_) rfl (by kernel_rfl) (by kernel_rfl) (by kernel_rfl) (fun _ _ _ h => h) (Or.inl ⟨by rfl, ?_⟩) (by assumption) ?_
                rotate_left
                · intro w_ hSw; (try dsimp only at hSw); obtain ⟨cx0_, cx1_, cx2_, cx3_⟩ := HCX.out w_ (HBA.out w_ (HW.out.trans (hSw.2.mono HW.out.size))); go_simp <;> with_reducible rfl
                simp only [Act.put, List.setIfInBounds_toArray, List.set_cons_zero, List.set_cons_succ]
                refine wpAnyH_take (i := 10) (oi := ⟨some 112, _, _, _, _, _⟩) (v := ?_) rfl (by kernel_rfl) (by kernel_rfl) (by kernel_rfl) (fun _ _ _ h => h) (Or.inl ⟨by rfl, ?_⟩) (by assumption) ?_
                rotate_left
                · intro w_ hSw; (try dsimp only at hSw); go_simp <;> with_reducible rfl
                simp only [Act.put, List.setIfInBounds_toArray, List.set_cons_zero, List.set_cons_succ]
                refine wpAnyH_take (i := 11) (oi := ⟨some 113, _, _, _, _, _⟩) (v := ?_) rfl (by kernel_rfl) (by kernel_rfl) (by kernel_rfl) (fun _ _ _ h => h) (Or.inl ⟨by rfl, ?_⟩) (by assumption) ?_
                rotate_left
                · intro w_ hSw; (try dsimp only at hSw); have c1_ : w_.cell? ⟨w.heap.size, 1, none⟩ = some (.slice (some ⟨bk, off, none⟩) n1 a.cj) := (by have h_ := hSw.1.cell 1; rw [← HAJ.out, ← HN1.out]; exact h_); go_simp <;> with_reducible rfl
                simp only [Act.put, List.setIfInBounds_toArray, List.set_cons_zero, List.set_cons_succ]
                refine wpAnyH_take (i := 12) (oi := ⟨some 114, _, _, _, _, _⟩) (v := ?_) rfl (by kernel_rfl) (by kernel_rfl) (by kernel_rfl) (fun _ _ _ h => h) (Or.inl ⟨by rfl, ?_⟩) (by assumption) ?_
                rotate_left
                · intro w_ hSw; (try dsimp only at hSw); go_simp <;> with_reducible rfl
                simp only [Act.put, List.setIfInBounds_toArray, List.set_cons_zero, List.set_cons_succ]
                refine wpAnyH_take (i := 13) (oi := ⟨some 115, _, _, _, _, _⟩) (v := ?_) rfl (by kernel_rfl) (by kernel_rfl) (by kernel_rfl) (fun _ _ _ h => h) (Or.inl ⟨by rfl, ?_⟩) (by assumption) ?_
                rotate_left
                · intro w_ hSw; (try dsimp only at hSw); go_simp <;> with_reducible rfl
                simp only [Act.put, List.setIfInBounds_toArray, List.set_cons_zero, List.set_cons_succ]
                refine wpAnyH_take (i := 14) (oi := ⟨some 116, _, _, _, _, _⟩) (v := ?_) rfl (by kernel_rfl) (by kernel_rfl) (by kernel_rfl) (fun _ _ _ h => h) (Or.inl ⟨by rfl, ?_⟩) (by assumption) ?_
                rotate_left
                · intro w_ hSw; (try dsimp only at hSw); go_simp <;> with_reducible rfl
                simp only [Act.put, List.setIfInBounds_toArray, List.set_cons_zero, List.set_cons_succ]
                refine wpAnyH_take (i := 15) (oi := ⟨some 117, _, _, _, _, _⟩) (v := ?_) rfl (by kernel_rfl) (by kernel_rfl) (by kernel_rfl) (fun _ _ _ h => h) (Or.inl ⟨by rfl, ?_⟩) (by assumption) ?_
                rotate_left
                · intro w_ hSw; (try dsimp only at hSw); obtain ⟨cx0_, cx1_, cx2_, cx3_⟩ := HCX.out w_ (HBA.out w_ (HW.out.trans (hSw.2.mono HW.out.size))); go_simp <;> with_reducible rfl
                simp only [Act.put, List.setIfInBounds_toArray, List.set_cons_zero, List.set_cons_succ]
                refine wpAnyH_ready (rs := [16]) (by kernel_rfl) (by simp) ?_
                refine AllReadyH.cons (o := ⟨some 118, _, _, _, _, _⟩) rfl (fun K hK => ?_) ?_
                · go_simp
                  obtain ⟨s0, s1⟩ := hHeld
                  have hlo_ := HBA.out _ (HW.out.trans (s1.mono HW.out.size))
                  have hj_ := (HT.out _ hlo_).j
                  rw [HAJ.out] at hj_
                  refine (rjoined_any _ i a.cj _ ja jb _ (hj_.take (fun _ => rfl) (by simp) (by have := HN1.out; omega)) (by omega)).mono ?_
                  rw [HTW.out]
                  rintro e_ vs ⟨rfl, hbs⟩
                  go_wp2_with fail
                  refine hK.out _ _ ?_ (fun hHeld => ?_)
                  · exact ⟨s0.under hbs s0.lt, s1.trans (hbs.mono s1.size)⟩
                  clear hK K s0 s1
                  try simp only [Act.put, List.setIfInBounds_toArray, List.set_cons_zero, List.set_cons_succ]
                  refine wpAnyH_take (i := 17) (oi := ⟨some 7, _, _, _, _, _⟩) (v := ?_) rfl (by kernel_rfl) (by kernel_rfl) (by kernel_rfl) (fun _ _ _ h => h) (Or.inl ⟨by rfl, ?_⟩) (by assumption) ?_
                  rotate_left
                  · intro w_ hSw; (try dsimp only at hSw); go_simp <;> with_reducible rfl
                  simp only [Act.put, List.setIfInBounds_toArray, List.set_cons_zero, List.set_cons_succ]
                  refine wpAnyH_done (by kernel_rfl) ?_ _
                  have HB3 := Lib.hid (HW.out.trans (hHeld.2.mono HW.out.size))
                  clear hHeld hic
                  cases tw with
                  | true =>
                    go_wp2
                    go_ret
                    have hJ : jointE t i = 5 := by rw [HJA.out]; simp
                    have hE : cE = 5 := by rw [HR1.out, if_neg (by rw [first_at hlt HF.out (by rw [hJ]; decide), hJ]; decide), first_at hlt HF.out (by rw [hJ]; decide)]; exact hJ
                    subst hE
                    exact ⟨by first | rfl | simp, HBA.out _ HB3.out⟩
                  | false =>
                    go_wp2
                    go_roundg (gk - 1)
                    case measure => omega
                    case rel =>
                      refine ⟨i + 1, by omega, by omega, by go_num, Lib.hid ?_, HB3.out⟩
                      show (if firstE (jointE t) i = 0 then jointE t i else firstE (jointE t) i) = 0
                      rw [if_pos HF.out, HJA.out]
                      simp
                exact AllReadyH.nil
        exact AllReadyH.nil
      exact AllReadyH.nil

end Go.Proofs.YteioefgckigbcaaGreat
