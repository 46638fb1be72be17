/-
  span as landed: pieces: the iterator over the pieces of two lists.
-/
import Derived.Test.YteioefgckigbcaaSnSort

import Derived.Test.YteioefgckigbcaaSnC

import Derived.BigQuiet

import Derived.IntWalk

import Derived.LoopIn

import Derived.RangeFuncNested

import Derived.RangeFuncBound

import Derived.RangeFuncCalls

import Derived.RangeFuncLeaves

import Derived.RangeFuncBox

import Derived.Shelf.Abstract

import Derived.Shelf.AbstractIn

import Derived.Shelf.RegionOpen

import Derived.ControlIn

namespace Go.Proofs.Yteioefgckigbcaa

open Go.RowKit Go.Shelf

open Go.Great

attribute [local go_sem] Oper.semAt_some

theorem step_pour15 {P : Program} {ops : Array Oper} {o : Oper} {a : Act} {w : World} {K : Act → World → Prop} {Q : Exit → Act → World → Prop} {E : Prop} (hgd : o.guard = none) (s x : Operand) (t : TypeId)
    (ho : o.op = .call { callee := .builtin .append, args := #[s, x], argTypes := #[t, t] })
    (base : Nat) (e : TypeId) (z : Value) (size bytes : Nat) (ht : P.underlying t = some (.slice e)) (hinfo : (P.info? e).map (fun i => (i.zero, i.size, i.bytes)) = some (some z, size, bytes))
    (hzs : z.cells.size = size) (hsz : 0 < size)
    (A : Option Addr) (n c : Nat) (xs : List Value) (hs : a.eval s = .slice A n c) (hown : Hid (w.ownsRow base e size (.slice A n c) n xs))
    (B : Option Addr) (m cc : Nat) (news : List Value) (hx : a.eval x = .slice B m cc) (hl : Hid (Sl w size B m cc news)) (h1 : Hid (∀ u ∈ news, u.oneCell' = true))
    (hb : Hid (n + m ≤ maxLen ∧ (n + m) * bytes ≤ 140737488355328 ∧ base ≤ w.heap.size))
    (h : ∀ A' c' w', Hid (w'.ownsRow base e size (.slice A' (n + m) c') (n + m) (xs ++ news)) → Hid (w.grownBy w' (Value.ownBlock (.slice A n c))) →
      K (a.put o.dst (.slice A' (n + m) c')) w') : if Region.wanted o (yielded ops a.tmps) = true then Oper.wp P o a w K Q else E := by
  cases B with
  | none =>
    obtain ⟨rfl, rfl⟩ := hl.out.2.1 rfl
    have e0 : news = [] := List.eq_nil_of_length_eq_zero (by simpa using hl.out.1)
    subst e0
    have hw : Region.wanted o (yielded ops a.tmps) = true := by simp [Region.wanted, hgd]
    rw [if_pos hw]
    obtain ⟨i, hi, _⟩ := info_parts hinfo
    have hr := run_append_owned_none (P := P) (w := w) base t o.type e i size ht hi (.slice A n c) n xs hown.out
    unfold Oper.wp execOp
    simp only [ho, resolve, invoke, builtin, Sem.run_bind, Sem.run_pure, Result.andThen_ok, List.map_toArray, List.map_cons, List.map_nil, hs, hx, hr]
    exact h A c w (show Hid _ by simpa using hown) (only_refl _ _)
  | some ad =>
    exact step_push hgd s x t ho base e z size bytes ht hinfo hzs hsz A n c xs hs hown ad m cc news hx hl.out.1 (hl.out.2.2 ad rfl) h1 hb h

theorem cell_old15 {W : World} {a : Addr} {v : Value} (h : W.cell? a = some v) (o : Obj) : (W.alloc o).cell? a = some v :=
  ((World.grownBy_alloc W o none).cell h (by simp))
/-- Blocks of one type stay as they are. -/
def KeepT (t : TypeId) (V V' : World) : Prop := ∀ g cs, Has V g t cs → Has V' g t cs
theorem KeepT.trans {t : TypeId} {A B C : World} (h : KeepT t A B) (k : KeepT t B C) : KeepT t A C := fun g cs x => k g cs (h g cs x)
theorem KeepT.putObj {t : TypeId} (W : World) (l : Nat) (o o' : Obj) (h : W.heap[l]? = some o) (hc : o.isCells = false) : KeepT t W (W.putObj l o') := fun g cs x => by
  unfold Has at x ⊢
  by_cases e : g = l
  · subst e
    rw [h] at x
    cases x
    cases hc
  · rw [World.putObj_heap_other e]
    exact x
theorem KeepT.alloc {t : TypeId} (W : World) (o : Obj) : KeepT t W (W.alloc o) := fun _ _ x => x.beside o
theorem OwR.keepT {α : Type} {f : α → List Value} {k : Nat} {e : TypeId} {base : Nat} {w w' : World} {A : Option Addr} {n c : Nat} {l : List α} (h : OwR f k e base w A n c l) (hk : KeepT e w w') : OwR f k e base w' A n c l := by
  refine ⟨⟨h.1.1, ?_⟩, h.2⟩
  rcases h.1.2 with h1 | ⟨g, cap, cur, h1, h2, h3, h4⟩
  · exact .inl h1
  · exact .inr ⟨g, cap, cur, h1, h2, hk g cur h3, h4⟩

set_option maxRecDepth 100000 in
theorem ossort_row (l : List Bd4) (A : Option Addr) (base n c : Nat) (w : World) (ho : OwR bdC 4 102 base w A n c l) (hn : n ≤ 1048576) :
    Calls Try.prog 48 #[.slice A n c, .func (.func 49) #[] #[]] w fun e w' => e = .returned (.tuple #[]) ∧ ∃ l' : List Bd4, l'.Perm l ∧ l'.Pairwise (fun x y => befB y x = false) ∧ OwR bdC 4 102 base w' A n c l' ∧ w.grownBy w' (Value.slice A n c).ownBlock := by
  by_cases h0 : n = 0
  · subst h0
    refine (ossort_none A c _ w).mono ?_
    rintro e w' ⟨rfl, rfl⟩
    obtain rfl : l = [] := List.eq_nil_of_length_eq_zero ho.2
    exact ⟨rfl, [], List.Perm.refl _, .nil, ho, only_refl _ _⟩
  · obtain ⟨g, rfl, _, _⟩ := ho.some (by omega)
    exact ossort_any l g base n c w ho hn

def encP (p : Pc5) : Array Value := #[.agg #[.int .i64 p.s.edge, .int .i64 p.s.lo, .int .i64 p.s.hi, .bool p.inA, .bool p.inB]]
theorem ospcs_any (A B : Option Addr) (n c m d : Nat) (w : World) :
    Calls Try.prog 27 #[.slice A n c, .slice B m d] w fun e w' => e = .returned (.func (.func 46) #[] #[.pointer (some ⟨w.heap.size, 0, none⟩), .pointer (some ⟨w.heap.size + 1, 0, none⟩)]) ∧ w' = (w.alloc (.cells #[.slice A n c] 39)).alloc (.cells #[.slice B m d] 39) := by
  go_enter Try.func27, Try.ntmps27
  go_wp2
  go_ret
  exact ⟨by first | rfl | simp, rfl⟩
theorem sweep_cons {L : List Bd4} {i : Nat} {x : Bd4} (h : L[i]? = some x) (pa oa ob : Int) : sweepL pa oa ob (L.drop i) = stepC pa oa ob x ++ sweepL x.at_ (oa + x.a) (ob + x.b) (L.drop (i + 1)) := by
  obtain ⟨h1, e⟩ := List.getElem?_eq_some_iff.1 h
  rw [List.drop_eq_getElem_cons h1, e, sweepL]

set_option maxRecDepth 100000 in
set_option maxHeartbeats 8000000 in
theorem ospcs_stops (mm : Nat) (hm1 : 1 ≤ mm) (a b : List Sn3) (A B : Option Addr) (n c m d Ba Bb : Nat) (w wq : World) (ha : SlO snC 3 w A n c a) (hb : SlO snC 3 w B m d b) (hn : n ≤ 4096) (hm : m ≤ 4096) (hwq : Below w.heap.size w wq) (hBa : Has wq Ba 39 #[.slice A n c]) (hBb : Has wq Bb 39 #[.slice B m d]) :
    SeqStopsK Fence.wide mm Try.prog 46 #[.pointer (some ⟨Ba, 0, none⟩), .pointer (some ⟨Bb, 0, none⟩)] encP (fun V V' => Below w.heap.size V V' ∧ KeepT 102 V V') (fun ss => ∃ L : List Bd4, L.Perm (boundsAll a b) ∧ L.Pairwise (fun x y => befB y x = false) ∧ ss = piecesL L) (fun _ => True) 20000 wq := fun l J Jx W hW hJ hJx hY h0 => by
  have HBA := Lib.hid (hBa.under hW hBa.lt)
  have HBB := Lib.hid (hBb.under hW hBb.lt)
  have HA := Lib.hid (fun V (hV : Below w.heap.size w V) => ha.under hV)
  have HB := Lib.hid (fun V (hV : Below w.heap.size w V) => hb.under hV)
  have HLA := Lib.hid ha.1; have HLB := Lib.hid hb.1
  have HWW := Lib.hid (hwq.trans (hW.mono hwq.size))
  have HY := Lib.hid hY; have HJ := Lib.hid hJ; have H0 := Lib.hid h0
  have HN := Lib.hid (show n ≤ 4096 ∧ m ≤ 4096 from ⟨hn, hm⟩)
  refine callsIn_wide.2 ?_
  clear ha hb hn hm hwq hBa hBb hW hJ hJx hY h0
  show Calls _ _ #[.func (.yield l) #[] #[], .pointer (some ⟨Ba, 0, none⟩), .pointer (some ⟨Bb, 0, none⟩)] W _
  go_enter Try.func46, Try.ntmps46
  go_upto_region 0 with fail
  refine wp_region_held_drew (S := (fun W_ => (Has W_ Ba 39 #[.slice A n c]) ∧ (Has W_ Bb 39 #[.slice B m d]) ∧ (Below w.heap.size w W_))) (by kernel_rfl) ?_ (fun hHeld => ?_)
  · exact ⟨HBA.out.draw, HBB.out.draw, below_dr11 HWW.out⟩
  refine wpAnyH_take (i := 0) (oi := ⟨some 10, _, _, _, _, _⟩) (v := ?_) rfl (by kernel_rfl) (by kernel_rfl) (by kernel_rfl) (fun _ _ _ h => h) (Or.inl ⟨by rfl, ?_⟩) (by assumption) ?_
  rotate_left
  · intro w_ hSw; (try dsimp only at hSw); obtain ⟨s0, s1, s2⟩ := hSw; (have q_ : w_.cell? ⟨Ba, 0, none⟩ = some (.slice A n c) := s0.cell 0); go_simp <;> with_reducible rfl
  simp only [Act.put, List.setIfInBounds_toArray, List.set_cons_zero, List.set_cons_succ]
  refine wpAnyH_take (i := 2) (oi := ⟨some 12, _, _, _, _, _⟩) (v := ?_) rfl (by kernel_rfl) (by kernel_rfl) (by kernel_rfl) (fun _ _ _ h => h) (Or.inl ⟨by rfl, ?_⟩) (by assumption) ?_
  rotate_left
  · intro w_ hSw; (try dsimp only at hSw); obtain ⟨s0, s1, s2⟩ := hSw; (have q_ : w_.cell? ⟨Bb, 0, none⟩ = some (.slice B m d) := s1.cell 0); go_simp <;> with_reducible rfl
  simp only [Act.put, List.setIfInBounds_toArray, List.set_cons_zero, List.set_cons_succ]
  refine wpAnyH_ready (rs := [1]) (by kernel_rfl) (by simp) ?_
  refine AllReadyH.cons (o := ⟨some 11, _, _, _, _, _⟩) rfl (fun K hK => ?_) AllReadyH.nil
  go_simp
  obtain ⟨s0, s1, s2⟩ := hHeld
  refine (osbnd_any a A n c 1 0 _ (HA.out _ s2) HN.out.1 (by decide) (by decide)).mono ?_
  rintro e_ v1 ⟨X1, k1, x1, rfl, ho1, hb1⟩
  have HO1 : Hid (OwR bdC 4 102 W.heap.size v1 X1 k1 x1 (bdsL 1 0 a)) := Lib.hid ho1
  have HB1 : Hid (Below W.heap.size W v1) := Lib.hid ((below_dr11 (Below.refl _ _)).trans hb1)
  go_wp2_with fail
  refine hK.out _ _ ?_ (fun hHeld => ?_)
  · exact ⟨s0.under hb1 s0.lt, s1.under hb1 s1.lt, s2.trans (hb1.mono s2.size)⟩
  clear hK K s0 s1 s2
  try simp only [Act.put, List.setIfInBounds_toArray, List.set_cons_zero, List.set_cons_succ]
  refine wpAnyH_ready (rs := [3]) (by kernel_rfl) (by simp) ?_
  refine AllReadyH.cons (o := ⟨some 13, _, _, _, _, _⟩) rfl (fun K hK => ?_) AllReadyH.nil
  go_simp
  obtain ⟨s0, s1, s2⟩ := hHeld
  refine (osbnd_any b B m d 0 1 _ (HB.out _ s2) HN.out.2 (by decide) (by decide)).mono ?_
  rintro e_ v2 ⟨X2, k2, x2, rfl, ho2, hb2⟩
  have HO1 := Lib.hid (HO1.out.under hb2)
  have HO2 := Lib.hid ho2.sl
  have HB2 : Hid (Below W.heap.size W v2) := Lib.hid (HB1.out.trans (hb2.mono HB1.out.size))
  have HKK : Hid (k1 + k2 ≤ 16384) := Lib.hid (by have h1_ := HO1.out.2; have h2_ := ho2.2; have h3_ := bds_len 1 0 a; have h4_ := bds_len 0 1 b; have h5_ := HN.out; have h6_ := HLA.out; have h7_ := HLB.out; omega)
  go_wp2_with fail
  refine hK.out _ _ ?_ (fun hHeld => ?_)
  · exact ⟨s0.under hb2 s0.lt, s1.under hb2 s1.lt, s2.trans (hb2.mono s2.size)⟩
  clear hK K s0 s1 s2
  try simp only [Act.put, List.setIfInBounds_toArray, List.set_cons_zero, List.set_cons_succ]
  refine wpAnyH_ready (rs := [4]) (by kernel_rfl) (by simp) ?_
  refine AllReadyH.cons (o := ⟨some 14, _, _, _, _, _⟩) rfl (fun K hK => ?_) AllReadyH.nil
  obtain ⟨s0, s1, s2⟩ := hHeld
  obtain ⟨hO, hSL, h1, hBD⟩ := pourR 32 HO1.out HO2.out one_bd15 HB2.out.size (by have h_ := HKK.out; omega) (by omega)
  refine step_pour15 (o := ⟨some 14, _, _, _, _, _⟩) (by rfl) (.tmp 11) (.tmp 13) 98 (by rfl) W.heap.size 102 (.agg #[.int .i64 0, .int .i64 0, .int .i64 0, .int .i64 0]) 4 32 Try.underlying98 info_bd15 (by rfl) (by decide) X1 k1 x1 _ (by rfl) hO X2 k2 x2 _ (by rfl) hSL h1 hBD ?_
  intro X x v3 ho3 hg3
  have HO3 : Hid (OwR bdC 4 102 W.heap.size v3 X (k1 + k2) x (boundsAll a b)) := Lib.hid (OwR.poured HO1.out.2 HO2.out.1 ho3.out)
  have HB3 : Hid (Below W.heap.size W v3) := Lib.hid (below_own HB2.out HB2.out.size hO.out (Nat.le_refl _) rfl hg3.out)
  refine hK.out _ _ ?_ (fun hHeld => ?_)
  · exact ⟨s0.grow hg3.out (fun e => own_apart hO.out s0 (by decide) e.symm), s1.grow hg3.out (fun e => own_apart hO.out s1 (by decide) e.symm), below_own s2 s2.size hO.out HWW.out.size rfl hg3.out⟩
  clear hK K s0 s1 s2
  try simp only [Act.put, List.setIfInBounds_toArray, List.set_cons_zero, List.set_cons_succ]
  refine wpAnyH_take (i := 5) (oi := ⟨some 4, _, _, _, _, _⟩) (v := ?_) rfl (by kernel_rfl) (by kernel_rfl) (by kernel_rfl) (fun _ _ _ h => h) (Or.inl ⟨by rfl, ?_⟩) (by assumption) ?_
  rotate_left
  · intro w_ hSw; (try dsimp only at hSw); go_simp <;> with_reducible rfl
  simp only [Act.put, List.setIfInBounds_toArray, List.set_cons_zero, List.set_cons_succ]
  clear ho1 ho2 hb1 hb2 ho3 hg3 hO hSL h1 hBD HO1 HO2 HB1 HB2 HBA HBB HA HB
  refine wpAnyH_done (by kernel_rfl) ?_ _
  clear hHeld
  obtain ⟨K, hK⟩ : ∃ K, k1 + k2 = K := ⟨_, rfl⟩
  rw [hK] at HO3 HKK
  simp only [hK]
  clear hK
  go_wp2_with fail
  refine (ossort_row _ X _ K x v3 HO3.out (by have h_ := HKK.out; omega)).mono ?_
  rintro e_ v4 ⟨rfl, L, hp, hso, ho4, hg4⟩
  have HP := Lib.hid hp; have HSO := Lib.hid hso; have HO4 := Lib.hid ho4
  have HB4 := Lib.hid (below_owr HB3.out HB3.out.size HO3.out (Nat.le_refl _) hg4)
  have HJ4 : Hid (J [] v4) := Lib.hid (HJ.out [] W v4 none H0.out (only_below HB4.out (Nat.le_refl _) none) (fun r e => by cases e))
  have HNUM : Hid (∀ x ∈ L, (-1 ≤ x.a ∧ x.a ≤ 1) ∧ (-1 ≤ x.b ∧ x.b ≤ 1)) := Lib.hid fun x hx => (all_mem (hp.mem_iff.1 hx)).2.2.2
  have HLL := Lib.hid ho4.2
  clear hp hso ho4 hg4 HO3 HB3 H0
  go_wp2
  go_loopg [5, 6, 19] K (fun kk v5 v6 v19 wl => ∃ (i : Nat) (ss : List Pc5) (pa oa ob : Int), i ≤ K ∧ K - i ≤ kk ∧ v19 = .int .i64 i ∧ v5 = .int .i64 oa ∧ v6 = .int .i64 ob ∧ Hid (ss ++ sweepL pa oa ob (L.drop i) = piecesL L) ∧ Hid (0 < i → ∃ y, L[i - 1]? = some y ∧ y.at_ = pa) ∧ Hid (-(i : Int) ≤ oa ∧ oa ≤ i ∧ -(i : Int) ≤ ob ∧ ob ≤ i) ∧ Hid (ss.length ≤ i) ∧ Hid (J ss wl) ∧ Hid (OwR bdC 4 102 W.heap.size wl X K x L))
  case atStart => exact ⟨0, [], 0, 0, 0, by omega, by omega, rfl, rfl, rfl, Lib.hid rfl, Lib.hid fun h => absurd h (by omega), Lib.hid (by omega), Lib.hid (Nat.le_refl _), HJ4, HO4⟩
  case round =>
    obtain ⟨i, ss, pa, oa, ob, hi, hik, rfl, rfl, rfl, HSS, HPA, HNB, HSL, HJS, HO⟩ := hrel
    obtain ⟨k1, hk1⟩ : ∃ k1, k1 = gk := ⟨_, rfl⟩
    subst hk1
    obtain ⟨wv, hwv⟩ : ∃ wv, wv = wr := ⟨_, rfl⟩
    subst hwv
    clear HJ4 HB4 HO4
    by_cases hlt : i < K
    rotate_left
    · obtain rfl : i = K := by omega
      have x1 : ¬ (i : Int) < i := by omega
      have HE : Hid (ss = piecesL L) := Lib.hid (by have h_ := HSS.out; rw [List.drop_of_length_le (by rw [HLL.out]; exact Nat.le_refl _)] at h_; rw [← h_]; simp [sweepL])
      clear hik hlt
      go_wp2
      go_end0
      exact ⟨⟨_, rfl⟩, .inl ⟨ss, ⟨L, HP.out, HSO.out, HE.out⟩, HJS.out⟩⟩
    obtain ⟨y, hy⟩ : ∃ y, L[i]? = some y := ⟨_, List.getElem?_eq_getElem (by rw [HLL.out]; exact hlt)⟩
    obtain ⟨g, rfl, hgb, hgl⟩ := HO.out.some (by omega)
    have d0_ := HO.out.sl.at_cell (fun _ => rfl) (by decide) hy (i := 0) rfl
    have d1_ := HO.out.sl.at_cell (fun _ => rfl) (by decide) hy (i := 1) rfl
    have d2_ := HO.out.sl.at_cell (fun _ => rfl) (by decide) hy (i := 2) rfl
    have d3_ := HO.out.sl.at_cell (fun _ => rfl) (by decide) hy (i := 3) rfl
    have e0 : 0 + i * 4 + 0 = i * 4 := by omega
    have e1 : 0 + i * 4 + 1 = i * 4 + 1 := by omega
    have e2 : 0 + i * 4 + 2 = i * 4 + 2 := by omega
    have e3 : 0 + i * 4 + 3 = i * 4 + 3 := by omega
    rw [e0] at d0_
    rw [e1] at d1_
    rw [e2] at d2_
    rw [e3] at d3_
    have HSW := Lib.hid (sweep_cons hy pa oa ob)
    have HYN := Lib.hid (HNUM.out y (List.mem_of_getElem? hy))
    have HYI := Lib.hid hy
    obtain ⟨xe, xa, xA, xB⟩ := y
    dsimp only at *
    have x1 : (i : Int) < K := by omega
    have x2 : (0 : Int) ≤ i := by omega
    have HII := Lib.hid (show i < K ∧ i ≤ K ∧ K - i ≤ k1 from ⟨hlt, hi, hik⟩)
    obtain ⟨oa2, hoa2⟩ : ∃ z, oa + xA = z := ⟨_, rfl⟩
    obtain ⟨ob2, hob2⟩ : ∃ z, ob + xB = z := ⟨_, rfl⟩
    obtain ⟨S, hS⟩ : ∃ z, oa + ob = z := ⟨_, rfl⟩
    have hwA : wrap64 (oa + xA) = oa2 := by rw [IntWalk.wrap64_in _ (by have h1_ := HNB.out; have h2_ := HYN.out; have h3_ := HKK.out; omega)]; exact hoa2
    have hwB : wrap64 (ob + xB) = ob2 := by rw [IntWalk.wrap64_in _ (by have h1_ := HNB.out; have h2_ := HYN.out; have h3_ := HKK.out; omega)]; exact hob2
    have hwS : IntKind.i64.wrap (oa + ob) = S := by rw [IntKind.wrap_i64]; have h1_ := HNB.out; have h3_ := HKK.out; omega
    have HNEW : Hid (-((i + 1 : Nat) : Int) ≤ oa2 ∧ oa2 ≤ ((i + 1 : Nat) : Int) ∧ -((i + 1 : Nat) : Int) ≤ ob2 ∧ ob2 ≤ ((i + 1 : Nat) : Int)) := Lib.hid (by have h1_ := HNB.out; have h2_ := HYN.out; omega)
    have HOB := Lib.hid (show oa + xA = oa2 ∧ ob + xB = ob2 ∧ oa + ob = S from ⟨hoa2, hob2, hS⟩)
    rw [hoa2, hob2] at HSW
    clear hy e0 e1 e2 e3 hlt hi hik hoa2 hob2 hS hgb
    go_upto_region 6 with fail
    obtain ⟨wb, hwb⟩ : ∃ wb, wv.alloc (.cells #[.int .i64 xe, .int .i64 xa, .int .i64 xA, .int .i64 xB] 102) = wb := ⟨_, rfl⟩
    rw [hwb]
    have HJB : Hid (J ss wb) := Lib.hid (HJ.out ss wv wb none HJS.out (by rw [← hwb]; exact only_alloc (only_refl _ _) _) (fun r e => by cases e))
    have HOW : Hid (OwR bdC 4 102 W.heap.size wb (some ⟨g, 0, none⟩) K x L) := Lib.hid (HO.out.under (by rw [← hwb]; exact (Below.refl _ _).alloc (Nat.le_refl _) _))
    have HH : Hid (Has wb wv.heap.size 102 #[.int .i64 xe, .int .i64 xa, .int .i64 xA, .int .i64 xB]) := Lib.hid (by rw [← hwb]; exact Has.made _ _ _)
    obtain ⟨gb, hgb⟩ : ∃ gb, wv.heap.size = gb := ⟨_, rfl⟩
    rw [hgb] at HH
    simp only [hgb]
    clear hwb hgb d0_ d1_ d2_ d3_ HJS HO x1 hgl
    by_cases y1 : 0 < S
    rotate_left
    · have y2 : decide (0 < S) = false := decide_eq_false y1
      have y3 : decide (S > 0) = false := decide_eq_false y1
      have HST : Hid (stepC pa oa ob ⟨xe, xa, xA, xB⟩ = []) := Lib.hid (if_neg (fun h_ => y1 (by have h2_ := HOB.out; omega)))
      go_quiet (fail)
      obtain ⟨wc, hwc⟩ : ∃ wc, wb.drewN nq = wc := ⟨_, rfl⟩
      rw [hwc]
      have HHc : Hid (Has wc gb 102 #[.int .i64 xe, .int .i64 xa, .int .i64 xA, .int .i64 xB]) := Lib.hid (by rw [← hwc]; exact HH.out)
      have HJc : Hid (J ss wc) := Lib.hid (HJ.out ss wb wc none HJB.out (by rw [← hwc]; exact only_draws (only_refl _ _) _) (fun r e => by cases e))
      have HOc : Hid (OwR bdC 4 102 W.heap.size wc (some ⟨g, 0, none⟩) K x L) := Lib.hid (by rw [← hwc]; exact HOW.out)
      clear hwc y1 y2 y3
      have g2 : wc.cell? ⟨gb, 2, none⟩ = some (.int .i64 xA) := (HHc.out).cell 2
      have g3 : wc.cell? ⟨gb, 3, none⟩ = some (.int .i64 xB) := (HHc.out).cell 3
      have HQ : Hid (ss ++ sweepL xa oa2 ob2 (L.drop (i + 1)) = piecesL L) := Lib.hid (by have h_ := HSS.out; rw [HSW.out, HST.out, List.nil_append] at h_; exact h_)
      have HJN : Hid (J (ss) (wc)) := Lib.hid (HJc.out)
      have HON : Hid (OwR bdC 4 102 W.heap.size (wc) (some ⟨g, 0, none⟩) K x L) := Lib.hid (HOc.out)
      clear HJB HOW HH
      go_wp2
      go_roundg (k1 - 1)
      case measure => have h_ := HII.out; omega
      case rel =>
        exact ⟨i + 1, ss, xa, oa2, ob2, by have h_ := HII.out; omega, by have h_ := HII.out; omega, by rw [IntWalk.wrap64_in _ (by have h_ := HII.out; have h2_ := HKK.out; omega)]; go_num, by first | rfl | rw [hwA], by first | rfl | rw [hwB], HQ, Lib.hid fun _ => ⟨_, HYI.out, rfl⟩, HNEW, Lib.hid (by have h_ := HSL.out; omega), HJN, HON⟩
    have HI0 : Hid (0 < i) := Lib.hid (by have h1_ := HNB.out; have h2_ := HOB.out; omega)
    obtain ⟨z, hz, hza⟩ := HPA.out HI0.out
    have d1_ := HOW.out.sl.at_cell (fun _ => rfl) (by decide) hz (i := 1) rfl
    have e1 : 0 + (i - 1) * 4 + 1 = (i - 1) * 4 + 1 := by omega
    rw [e1] at d1_
    rw [hza] at d1_
    have hw1 : IntKind.i64.wrap ((i : Int) - 1) = (i : Int) - 1 := by rw [IntKind.wrap_i64]; have h_ := HKK.out; have h2_ := HII.out; have h3_ := HI0.out; omega
    have hw2 : ((i : Int) - 1).toNat = i - 1 := by omega
    have y4 : (0 : Int) ≤ (i : Int) - 1 := by have h3_ := HI0.out; omega
    have y5 : (i : Int) - 1 < K := by have h2_ := HII.out; omega
    have y6 : (1 : Int) ≤ (i : Int) := by have h3_ := HI0.out; omega
    have y2 : decide (0 < S) = true := decide_eq_true y1
    have y3 : decide (S > 0) = true := decide_eq_true y1
    have HCB := Lib.hid (HH.out.cell 1)
    have g1 : wb.cell? ⟨gb, 1, none⟩ = some (.int .i64 xa) := HH.out.cell 1
    clear hz hza e1 HPA HCB
    by_cases y7 : pa < xa
    rotate_left
    · have HST : Hid (stepC pa oa ob ⟨xe, xa, xA, xB⟩ = []) := Lib.hid (if_neg (fun h_ => y7 h_.2))
      go_quiet (fail)
      obtain ⟨wc, hwc⟩ : ∃ wc, wb.drewN nq = wc := ⟨_, rfl⟩
      rw [hwc]
      have HHc : Hid (Has wc gb 102 #[.int .i64 xe, .int .i64 xa, .int .i64 xA, .int .i64 xB]) := Lib.hid (by rw [← hwc]; exact HH.out)
      have HJc : Hid (J ss wc) := Lib.hid (HJ.out ss wb wc none HJB.out (by rw [← hwc]; exact only_draws (only_refl _ _) _) (fun r e => by cases e))
      have HOc : Hid (OwR bdC 4 102 W.heap.size wc (some ⟨g, 0, none⟩) K x L) := Lib.hid (by rw [← hwc]; exact HOW.out)
      clear hwc y1 y2 y3
      clear d1_ g1 y4 y5 y6 y7 hw1 hw2
      have g2 : wc.cell? ⟨gb, 2, none⟩ = some (.int .i64 xA) := (HHc.out).cell 2
      have g3 : wc.cell? ⟨gb, 3, none⟩ = some (.int .i64 xB) := (HHc.out).cell 3
      have HQ : Hid (ss ++ sweepL xa oa2 ob2 (L.drop (i + 1)) = piecesL L) := Lib.hid (by have h_ := HSS.out; rw [HSW.out, HST.out, List.nil_append] at h_; exact h_)
      have HJN : Hid (J (ss) (wc)) := Lib.hid (HJc.out)
      have HON : Hid (OwR bdC 4 102 W.heap.size (wc) (some ⟨g, 0, none⟩) K x L) := Lib.hid (HOc.out)
      clear HJB HOW HH
      go_wp2
      go_roundg (k1 - 1)
      case measure => have h_ := HII.out; omega
      case rel =>
        exact ⟨i + 1, ss, xa, oa2, ob2, by have h_ := HII.out; omega, by have h_ := HII.out; omega, by rw [IntWalk.wrap64_in _ (by have h_ := HII.out; have h2_ := HKK.out; omega)]; go_num, by first | rfl | rw [hwA], by first | rfl | rw [hwB], HQ, Lib.hid fun _ => ⟨_, HYI.out, rfl⟩, HNEW, Lib.hid (by have h_ := HSL.out; omega), HJN, HON⟩
    have HST : Hid (stepC pa oa ob ⟨xe, xa, xA, xB⟩ = [⟨⟨xe, pa, xa⟩, decide (0 < oa), decide (0 < ob)⟩]) := Lib.hid (if_pos ⟨by have h_ := HOB.out; omega, y7⟩)
    go_quiet (fail)
    obtain ⟨wc, hwc⟩ : ∃ wc, wb.drewN nq = wc := ⟨_, rfl⟩
    rw [hwc]
    have HHc : Hid (Has wc gb 102 #[.int .i64 xe, .int .i64 xa, .int .i64 xA, .int .i64 xB]) := Lib.hid (by rw [← hwc]; exact HH.out)
    have HJc : Hid (J ss wc) := Lib.hid (HJ.out ss wb wc none HJB.out (by rw [← hwc]; exact only_draws (only_refl _ _) _) (fun r e => by cases e))
    have HOc : Hid (OwR bdC 4 102 W.heap.size wc (some ⟨g, 0, none⟩) K x L) := Lib.hid (by rw [← hwc]; exact HOW.out)
    have d1c : wc.cell? ⟨g, (i - 1) * 4 + 1, none⟩ = some (.int .i64 pa) := by rw [← hwc]; exact d1_
    have g0c : wc.cell? ⟨gb, 0, none⟩ = some (.int .i64 xe) := HHc.out.cell 0
    have g1c : wc.cell? ⟨gb, 1, none⟩ = some (.int .i64 xa) := HHc.out.cell 1
    clear hwc y1 y2 y3
    clear d1_ g1 y7 HJB HOW HH
    have a0 : (wc.alloc (.cells #[.int .i64 0, .int .i64 0, .int .i64 0] 80)).cell? ⟨gb, 0, none⟩ = some (.int .i64 xe) := (HHc.out.beside _).cell 0
    have a1 : (wc.alloc (.cells #[.int .i64 0, .int .i64 0, .int .i64 0] 80)).cell? ⟨gb, 1, none⟩ = some (.int .i64 xa) := (HHc.out.beside _).cell 1
    have a2 : (wc.alloc (.cells #[.int .i64 0, .int .i64 0, .int .i64 0] 80)).cell? ⟨g, (i - 1) * 4 + 1, none⟩ = some (.int .i64 pa) := (cell_old15 d1c _)
    go_upto_region 7 with fail
    go_region
    obtain ⟨wd, hwd⟩ : ∃ wd, (wc.alloc (.cells #[.int .i64 xe, .int .i64 pa, .int .i64 xa] 80)).drew = wd := ⟨_, rfl⟩
    rw [hwd]
    have HGW : Hid (wc.grownBy wd none) := Lib.hid (by rw [← hwd]; exact only_draw (only_alloc (only_refl _ _) _))
    have hks : Has wd wc.heap.size 80 #[.int .i64 xe, .int .i64 pa, .int .i64 xa] := by rw [← hwd]; exact (Has.made _ _ _).draw
    obtain ⟨gs, hgs⟩ : ∃ gs, wc.heap.size = gs := ⟨_, rfl⟩
    rw [hgs] at hks
    simp only [hgs]
    have k0 : wd.cell? ⟨gs, 0, none⟩ = some (.int .i64 xe) := hks.cell 0
    have k1 : wd.cell? ⟨gs, 1, none⟩ = some (.int .i64 pa) := hks.cell 1
    have k2 : wd.cell? ⟨gs, 2, none⟩ = some (.int .i64 xa) := hks.cell 2
    have HHd : Hid (Has wd gb 102 #[.int .i64 xe, .int .i64 xa, .int .i64 xA, .int .i64 xB]) := Lib.hid (HHc.out.grow HGW.out (by simp))
    have HJd : Hid (J ss wd) := Lib.hid (HJ.out ss wc wd none HJc.out HGW.out (fun r e => by cases e))
    have HOd : Hid (OwR bdC 4 102 W.heap.size wd (some ⟨g, 0, none⟩) K x L) := Lib.hid (HOc.out.kept HGW.out (.inr (by simp [Value.ownBlock])))
    clear hks hwd hgs a0 a1 a2 d1c g0c g1c y4 y5 y6 hw1 hw2 HHc HJc HOc HGW
    go_upto_region 8 with fail
    refine (wpIn_wide (n := mm)).1 ?_
    obtain ⟨fn, tmps, assign, body, hy, hR⟩ := HY.out ss ⟨⟨xe, pa, xa⟩, decide (0 < oa), decide (0 < ob)⟩ wd HJd.out (by have h_ := HSL.out; have h2_ := HII.out; have h3_ := HKK.out; omega)
    unfold encP at hy
    dsimp only at hy
    gi_wp2
    refine hR.mono ?_
    rintro e W3 (⟨rfl, hJ4, hk4⟩ | ⟨rfl, hJx4⟩)
    · skip
      have HJ4 := Lib.hid hJ4
      have HH4 := Lib.hid (hk4.2 _ _ HHd.out)
      have HO4 := Lib.hid (HOd.out.keepT hk4.2)
      clear hJ4 hk4 hy hR k0 k1 k2 HJd HHd HOd
      have g2 : W3.cell? ⟨gb, 2, none⟩ = some (.int .i64 xA) := (HH4.out).cell 2
      have g3 : W3.cell? ⟨gb, 3, none⟩ = some (.int .i64 xB) := (HH4.out).cell 3
      have HQ : Hid ((ss ++ [⟨⟨xe, pa, xa⟩, decide (0 < oa), decide (0 < ob)⟩]) ++ sweepL xa oa2 ob2 (L.drop (i + 1)) = piecesL L) := Lib.hid (by have h_ := HSS.out; rw [HSW.out, HST.out, ← List.append_assoc] at h_; exact h_)
      have HJN : Hid (J ((ss ++ [⟨⟨xe, pa, xa⟩, decide (0 < oa), decide (0 < ob)⟩])) (W3)) := Lib.hid (HJ4.out)
      have HON : Hid (OwR bdC 4 102 W.heap.size (W3) (some ⟨g, 0, none⟩) K x L) := Lib.hid (HO4.out)
      clear HJ4 HH4 HO4
      gi_wp2
      go_wp2
      go_roundg (k1 - 1)
      case measure => have h_ := HII.out; omega
      case rel =>
        exact ⟨i + 1, (ss ++ [⟨⟨xe, pa, xa⟩, decide (0 < oa), decide (0 < ob)⟩]), xa, oa2, ob2, by have h_ := HII.out; omega, by have h_ := HII.out; omega, by rw [IntWalk.wrap64_in _ (by have h_ := HII.out; have h2_ := HKK.out; omega)]; go_num, by first | rfl | rw [hwA], by first | rfl | rw [hwB], HQ, Lib.hid fun _ => ⟨_, HYI.out, rfl⟩, HNEW, Lib.hid (by have h_ := HSL.out; simp; omega), HJN, HON⟩
    · gi_wp2
      go_wp2
      refine bodyPost_ret (results_none rfl _ _ _) rfl ?_
      exact ⟨⟨_, rfl⟩, .inr ⟨_, trivial, hJx4⟩⟩

end Go.Proofs.Yteioefgckigbcaa
