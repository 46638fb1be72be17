/-
  span as landed: collect, Total.
-/
import Derived.Test.YteioefgckigbcaaSnD

import Derived.Test.YteioefgckigbcaaToBack

namespace Go.Proofs.Yteioefgckigbcaa

open Go.RowKit Go.Shelf

attribute [local go_sem] Oper.semAt_some

def pcA (p : Pc5) : Array Value := #[.int .i64 p.s.edge, .int .i64 p.s.lo, .int .i64 p.s.hi, .bool p.inA, .bool p.inB]
theorem owr_cells {α : Type} {f : α → List Value} {k : Nat} {e : TypeId} {base : Nat} {W : World} {A : Option Addr} {n c : Nat} {l : List α} (h : OwR f k e base W A n c l) {j : Nat} {o : Obj} (ej : (Value.slice A n c).ownBlock = some j) (hj : W.heap[j]? = some o) : o.isCells = true := by
  rcases h.1.2 with ⟨h1, _⟩ | ⟨g, cap, cur, h1, _, h3, _⟩
  · rw [h1] at ej
    cases ej
  · rw [h1] at ej
    obtain rfl : g = j := by simpa [Value.ownBlock] using ej
    rw [h3] at hj
    cases hj
    rfl
theorem boxed_from {W W' : World} {row : Option Nat} {B C : Nat} {t : TypeId} {v : Value} (h : Boxed W B t v) (hg : W.grownBy W' row) (hr : ∀ r, row = some r → C ≤ r ∧ ∃ o : Obj, W.heap[r]? = some o ∧ o.isCells = false) : Boxed W' B t v := h.kept hg fun e => by
  obtain ⟨_, o, ho, hc⟩ := hr B e.symm
  rw [show W.heap[B]? = _ from h] at ho
  cases ho
  cases hc
theorem owr_from {α : Type} {f : α → List Value} {k : Nat} {e : TypeId} {base : Nat} {W W' : World} {row : Option Nat} {C : Nat} {A : Option Addr} {n c : Nat} {l : List α} (h : OwR f k e base W A n c l) (hg : W.grownBy W' row) (hr : ∀ r, row = some r → C ≤ r ∧ ∃ o : Obj, W.heap[r]? = some o ∧ o.isCells = false) : OwR f k e base W' A n c l := by
  refine h.kept hg ?_
  cases A with
  | none => exact .inl rfl
  | some ad =>
    obtain ⟨g, cur, rfl, _, hh, _⟩ := h.has
    refine .inr fun e2 => ?_
    obtain ⟨_, o, ho, hc⟩ := hr g e2.symm
    rw [show W.heap[g]? = _ from hh] at ho
    cases ho
    cases hc

set_option maxRecDepth 100000 in
set_option maxHeartbeats 4000000 in
theorem oscollect_any (F : Nat) (kf : Bool → Bool → Bool) (Kp : Kp3) (hk : ∀ x y W, Calls Try.prog F #[.bool x, .bool y] W fun e W' => e = .returned (.bool (kf x y)) ∧ W = W') (eg : ∀ args w, (callFunc F args).run Try.prog w = .ok (.enter F args) w) (hK : ∀ x y, (x || y) = true → kf x y = wantB Kp x y)
    (a b : List Sn3) (A B : Option Addr) (n c m d : Nat) (w : World) (ha : SlO snC 3 w A n c a) (hb : SlO snC 3 w B m d b) (hn : n ≤ 4096) (hm : m ≤ 4096) :
    Calls Try.prog 37 #[.slice A n c, .slice B m d, .func (.func F) #[] #[]] w fun e w' => ∃ X x, e = .returned (.slice X (formL a b Kp).length x) ∧ SlO snC 3 w' X (formL a b Kp).length x (formL a b Kp) ∧ (formL a b Kp).length ≤ x ∧ Below w.heap.size w w' := by
  refine (callsIn_wide (n := 4)).1 ?_
  refine callsIn_of_wp_marks Try.func37 rfl trivial ?_ rfl
  simp only [Try.ntmps37, List.size_toArray, List.length_cons, List.length_nil, Nat.reduceAdd, Nat.reduceSub, Array.replicate_succ, Array.replicate_zero, List.push_toArray, List.append_toArray, List.nil_append, List.cons_append]
  have HA := Lib.hid ha; have HB := Lib.hid hb; have HN := Lib.hid (show n ≤ 4096 ∧ m ≤ 4096 from ⟨hn, hm⟩); have HKK := Lib.hid hK; have HK := Lib.hid hk
  clear ha hb hn hm hK hk
  gi_wp2
  obtain ⟨w2, hw2⟩ : ∃ w2, (w.alloc (.cells #[.func (.func F) #[] #[]] 91)).alloc (.cells #[.slice none 0 0] 39) = w2 := ⟨_, rfl⟩
  rw [hw2]
  have hk2 : Has w2 w.heap.size 91 #[.func (.func F) #[] #[]] := by rw [← hw2]; exact (Has.made _ _ _).beside _
  have hx2 : Has w2 (w.heap.size + 1) 39 #[.slice none 0 0] := by rw [← hw2]; exact has_at11 (by simp)
  have hb2 : Below w.heap.size w w2 := by rw [← hw2]; exact ((Below.refl _ _).alloc (Nat.le_refl _) _).alloc (by simp) _
  have hs2 : w2.heap.size = w.heap.size + 2 := by rw [← hw2]; simp
  clear hw2
  refine ⟨trivial, (callsIn_wide.2 (ospcs_any A B n c m d w2)).mono ?_⟩
  rintro e w4 ⟨rfl, hw4⟩
  have hBa : Has w4 w2.heap.size 39 #[.slice A n c] := by rw [hw4]; exact (Has.made _ _ _).beside _
  have hBb : Has w4 (w2.heap.size + 1) 39 #[.slice B m d] := by rw [hw4]; exact has_at11 (by simp)
  have hk4 : Has w4 w.heap.size 91 #[.func (.func F) #[] #[]] := by rw [hw4]; exact (hk2.beside _).beside _
  have hx4 : Has w4 (w.heap.size + 1) 39 #[.slice none 0 0] := by rw [hw4]; exact (hx2.beside _).beside _
  have hb4 : Below w.heap.size w w4 := by rw [hw4]; exact (hb2.alloc hb2.size _).alloc (by have := hb2.size; simp; omega) _
  have hs4 : w4.heap.size = w.heap.size + 4 := by rw [hw4]; simp; omega
  clear hw4 hk2 hx2 hb2
  have HSEQ := Lib.hid (ospcs_stops 3 (by omega) a b A B n c m d w2.heap.size (w2.heap.size + 1) w w4 HA.out HB.out HN.out.1 HN.out.2 hb4 hBa hBb)
  have HK4 := Lib.hid hk4; have HX4 := Lib.hid hx4; have HB4 := Lib.hid hb4; have HS4 := Lib.hid hs4
  clear hBa hBb hs2 hs4 hb4 hk4 hx4 HA HB
  gi_wp2
  refine wpIn_range14 (w0 := w4) rfl (by omega) (gf := 46) (lb := #[.pointer (some ⟨w2.heap.size, 0, none⟩), .pointer (some ⟨w2.heap.size + 1, 0, none⟩)]) rfl trivial (enters_of Try.func46 (by kernel_rfl) rfl) HSEQ.out
    (fun h k => ⟨h.1.trans k.1, h.2.trans k.2⟩)
    (fun W l o o' h hl hc hk => ⟨belowK_b (w := w4) (by have := HS4.out; omega) W l o o' h hl hc hk, KeepT.putObj W l o o' hl hc⟩)
    (fun W o h => ⟨(Below.refl _ W).alloc (by have := HS4.out; omega) o, KeepT.alloc W o⟩)
    (Below.refl _ _) (fun _ => rfl)
    (fun (pre : List Pc5) W => ∃ X x, Boxed W (w.heap.size + 1) 39 (.slice X (foldJ kf [] pre).length x) ∧ OwR snC 3 80 w.heap.size W X (foldJ kf [] pre).length x (foldJ kf [] pre) ∧ Below w.heap.size w W ∧ Boxed W w.heap.size 91 (.func (.func F) #[] #[]))
    (fun s W W' row hs hg hr => by
      obtain ⟨X, x, h1, h2, h3, h4⟩ := hs
      exact ⟨X, x, boxed_from h1 hg hr, owr_from h2 hg hr, h3.grown hg h3.size (fun k e => Nat.le_trans (by have := HS4.out; omega) (hr k e).1), boxed_from h4 hg hr⟩)
    ⟨none, 0, HX4.out, OwR.nil _ _ _ _ _, HB4.out, HK4.out⟩
    (fun x => .cells (pcA x) 82)
    (fun x v => { tmps := #[.slice A n c, .slice B m d, .func (.func F) #[] #[], undef, undef, .pointer (some ⟨w.heap.size, 0, none⟩), .slice none 0 0, .pointer (some ⟨w.heap.size + 1, 0, none⟩), .pointer (some ⟨v, 0, none⟩), .slice A n c, .slice B m d, .func (.func 46) #[] #[.pointer (some ⟨w2.heap.size, 0, none⟩), .pointer (some ⟨w2.heap.size + 1, 0, none⟩)], .agg (pcA x), undef, undef, undef, undef, undef, undef, undef, undef, undef, undef, undef], defers := [] }) ?assign ?body ?done
  case assign =>
    intro l x W K hK
    unfold encP
    unfold pcA at *
    gi_wp2
    exact hK
  case body =>
    rintro l pre p v W ⟨X, x, hbl, ho, hB, hbk⟩ hv hvw hlen
    have hst : Has W v 82 (pcA p) := hv
    unfold pcA at *
    have HB5 := Lib.hid hB; have HBL := Lib.hid hbl; have HO := Lib.hid ho; have HBK := Lib.hid hbk; have HLEN := Lib.hid (show (foldJ kf [] pre).length ≤ 20000 from Nat.le_trans (foldJ_len kf [] pre) (by simp; omega))
    have HFJ := Lib.hid (foldJ_snoc kf [] pre p)
    have q0 : W.cell? ⟨v, 0, none⟩ = some (.int .i64 p.s.edge) := hst.cell 0
    have q1 : W.cell? ⟨v, 1, none⟩ = some (.int .i64 p.s.lo) := hst.cell 1
    have q2 : W.cell? ⟨v, 2, none⟩ = some (.int .i64 p.s.hi) := hst.cell 2
    have q3 : W.cell? ⟨v, 3, none⟩ = some (.bool p.inA) := hst.cell 3
    have q4 : W.cell? ⟨v, 4, none⟩ = some (.bool p.inB) := hst.cell 4
    have c5 := hbk.cell
    have c7 := hbl.cell
    generalize foldJ kf [] pre = l0 at *
    clear hst hv ho hB hlen hbl hbk
    gi_wp2
    refine ⟨trivial, (CallsIn.inRound l (callsIn_wide.2 (HK.out p.inA p.inB W))).mono ?_⟩
    rintro e W1 ⟨rfl, rfl⟩
    clear q3 q4 c5
    obtain ⟨q, hq⟩ : ∃ q, kf p.inA p.inB = q := ⟨_, rfl⟩
    rw [hq] at HFJ ⊢
    clear hq
    cases q with
    | false =>
      rw [if_neg (by decide)] at HFJ
      clear q0 q1 q2 c7
      gi_wp2
      refine ⟨KeepsOthers.refl _, ⟨Below.refl _ _, fun _ _ x => x⟩, ?_⟩
      dsimp only
      rw [HFJ.out]
      exact ⟨X, x, HBL.out, HO.out, HB5.out, HBK.out⟩
    | true =>
      rw [if_pos rfl] at HFJ
      gi_wp2
      refine ⟨trivial, (CallsIn.inRound l (callsIn_wide.2 (osjoin_any l0 p.s w.heap.size X l0.length x W HO.out HB5.out.size (by have := HLEN.out; omega)))).mono ?_⟩
      rintro e W2 ⟨X', k', x', rfl, ho', hg'⟩
      obtain rfl : (joinL l0 p.s).length = k' := ho'.2
      have hbl2 : Boxed W2 (w.heap.size + 1) 39 (.slice X l0.length x) := HBL.out.kept hg' (HBL.out.not_row (by decide) HO.out.1)
      have c8 := hbl2.cell
      have f8 := hbl2.frozen
      have HBL2 := Lib.hid hbl2; have HO2 := Lib.hid ho'; have HG2 := Lib.hid hg'
      clear hbl2 ho' hg' q0 q1 q2 c7
      gi_wp2
      have hlow : ∀ k, (Value.slice X l0.length x).ownBlock = some k → w.heap.size ≤ k := fun k e => (HO.out.1.lt k e).1
      refine ⟨(KeepsOthers.of_grownBy HG2.out fun j o ej hj => owr_cells HO.out ej hj).trans (KeepsOthers.setCell _ _ _), ⟨((Below.refl _ _).grown HG2.out HB5.out.size hlow).setCell (p := ⟨w.heap.size + 1, 0, none⟩) (by simp) _, fun g cs hh => (hh.grow HG2.out (fun e => HO.out.apart hh (by decide) e.symm)).apart (p := ⟨w.heap.size + 1, 0, none⟩) (Has.other hh (show Has W (w.heap.size + 1) 39 #[.slice X l0.length x] from HBL.out) (by decide)) _⟩, ?_⟩
      dsimp only
      rw [HFJ.out]
      refine ⟨X', x', HBL2.out.set _, HO2.out.kept (grownBy_setCell' W2 (w.heap.size + 1) _) (.inr (HBL2.out.not_row (by decide) HO2.out.1).symm), (HB5.out.grown HG2.out HB5.out.size hlow).setCell (p := ⟨w.heap.size + 1, 0, none⟩) (by simp) _, ?_⟩
      exact (HBK.out.kept HG2.out (HBK.out.not_row (by decide) HO.out.1)).kept (grownBy_setCell' W2 (w.heap.size + 1) _) (by simp)
  case done =>
    rintro D ys W hD ⟨L, hp, hso, rfl⟩ ⟨X, x, hbl, ho, hB, hbk⟩ hK
    have e1 := collect_form hp hso kf Kp HKK.out
    rw [e1] at hbl ho
    have c2 := hbl.cell
    have HB5 := Lib.hid hB; have HO := Lib.hid ho
    clear hbl ho hB hbk hp hso e1
    gi_wp2
    refine ⟨by simp, .inl ⟨_, _, rfl, run_takeDeferred hK, ?_⟩⟩
    have ho2 := owr_from (C := 0) HO.out (grownBy_putObj' W D (.deferred none)) (fun r e => ⟨Nat.zero_le _, _, by cases e; exact hK, rfl⟩)
    exact ⟨_, results_tmp rfl _ _ _, X, x, rfl, ho2.sl, HO.out.cap, HB5.out.trans (belowK_b (w := w) (Nat.le_refl _) W D _ _ (by have := HS4.out; omega) hK rfl rfl)⟩

def sumW (l : List Pc5) : Int := l.foldl (fun n p => wrap64 (n + wrap64 (p.s.hi - p.s.lo))) 0
theorem sumW_snoc (l : List Pc5) (p : Pc5) : sumW (l ++ [p]) = wrap64 (sumW l + wrap64 (p.s.hi - p.s.lo)) := by
  unfold sumW
  rw [List.foldl_append]
  rfl
theorem sumW_from {l : List Pc5} (h : ∀ p ∈ l, okN p.s) (n : Int) (h0 : 0 ≤ n) (h1 : n + l.length * 1000000 ≤ 1000000000000) : l.foldl (fun n p => wrap64 (n + wrap64 (p.s.hi - p.s.lo))) n = n + sumN (l.map (·.s)) := by
  induction l generalizing n with
  | nil => simp [sumN]
  | cons p r ih =>
    obtain ⟨k1, k2, k3, k4⟩ := h p (List.mem_cons_self ..)
    rw [List.length_cons] at h1
    rw [List.foldl_cons, List.map_cons, IntWalk.wrap64_in (p.s.hi - p.s.lo) (by omega), IntWalk.wrap64_in (n + (p.s.hi - p.s.lo)) (by omega), ih (fun q hq => h q (List.mem_cons_of_mem _ hq)) _ (by omega) (by omega)]
    show _ = n + (p.s.hi - p.s.lo + _)
    omega
theorem sumW_total {a : List Sn3} {L : List Bd4} (hp : L.Perm (boundsAll a [])) (hs : L.Pairwise fun x y => befB y x = false) (hn : a.length ≤ 4096) : sumW (piecesL L) = totalL a := by
  have h1 := (pieces_ok hp hs).1.ok
  have h2 : (piecesL L).length ≤ 8192 := by
    have h3 := sweep_len 0 0 0 L
    have h4 := hp.length_eq
    have h5 := bds_len 1 0 a
    unfold boundsAll at h4
    rw [List.length_append, show (bdsL 0 1 []).length = 0 from rfl] at h4
    unfold piecesL
    omega
  unfold sumW
  rw [sumW_from (fun p hp => (h1 p hp).1) 0 (Int.le_refl _) (by omega), pieces_total hp hs]
  omega

set_option maxRecDepth 100000 in
set_option maxHeartbeats 4000000 in
theorem osn_total (l : List Sn3) (A : Option Addr) (n c : Nat) (w : World) (hs : SlO snC 3 w A n c l) (_ : n ≤ c) (hn : n ≤ 4096) :
    Calls Try.prog 15 #[.slice A n c] w fun r w' => r = .returned (.int .i64 (totalL l)) ∧ Below w.heap.size w w' := by
  refine (callsIn_wide (n := 4)).1 ?_
  refine callsIn_of_wp_marks Try.func15 rfl trivial ?_ rfl
  simp only [Try.ntmps15, List.size_toArray, List.length_cons, List.length_nil, Nat.reduceAdd, Nat.reduceSub, Array.replicate_succ, Array.replicate_zero, List.push_toArray, List.append_toArray, List.nil_append, List.cons_append]
  have HA := Lib.hid hs; have HN := Lib.hid hn; have HLN := Lib.hid hs.1
  clear hs hn
  gi_wp2
  obtain ⟨w2, hw2⟩ : ∃ w2, w.alloc (.cells #[.int .i64 0] 3) = w2 := ⟨_, rfl⟩
  rw [hw2]
  have hx2 : Has w2 w.heap.size 3 #[.int .i64 0] := by rw [← hw2]; exact Has.made _ _ _
  have hb2 : Below w.heap.size w w2 := by rw [← hw2]; exact (Below.refl _ _).alloc (Nat.le_refl _) _
  have hs2 : w2.heap.size = w.heap.size + 1 := by rw [← hw2]; simp
  clear hw2
  refine ⟨trivial, (callsIn_wide.2 (ospcs_any A none n c 0 0 w2)).mono ?_⟩
  rintro e w4 ⟨rfl, hw4⟩
  have hBa : Has w4 w2.heap.size 39 #[.slice A n c] := by rw [hw4]; exact (Has.made _ _ _).beside _
  have hBb : Has w4 (w2.heap.size + 1) 39 #[.slice none 0 0] := by rw [hw4]; exact has_at11 (by simp)
  have hx4 : Has w4 w.heap.size 3 #[.int .i64 0] := by rw [hw4]; exact (hx2.beside _).beside _
  have hb4 : Below w.heap.size w w4 := by rw [hw4]; exact (hb2.alloc hb2.size _).alloc (by have := hb2.size; simp; omega) _
  have hs4 : w4.heap.size = w.heap.size + 3 := by rw [hw4]; simp; omega
  clear hw4 hx2 hb2
  have HSEQ := Lib.hid (ospcs_stops 3 (by omega) l [] A none n c 0 0 w2.heap.size (w2.heap.size + 1) w w4 HA.out (SlO.nil _ _ _) HN.out (by omega) hb4 hBa hBb)
  have HX4 := Lib.hid hx4; have HB4 := Lib.hid hb4; have HS4 := Lib.hid hs4
  clear hBa hBb hs2 hs4 hb4 hx4 HA
  gi_wp2
  refine wpIn_range14 (w0 := w4) rfl (by omega) (gf := 46) (lb := #[.pointer (some ⟨w2.heap.size, 0, none⟩), .pointer (some ⟨w2.heap.size + 1, 0, none⟩)]) rfl trivial (enters_of Try.func46 (by kernel_rfl) rfl) HSEQ.out
    (fun h k => ⟨h.1.trans k.1, h.2.trans k.2⟩)
    (fun W l o o' h hl hc hk => ⟨belowK_b (w := w4) (by have := HS4.out; omega) W l o o' h hl hc hk, KeepT.putObj W l o o' hl hc⟩)
    (fun W o h => ⟨(Below.refl _ W).alloc (by have := HS4.out; omega) o, KeepT.alloc W o⟩)
    (Below.refl _ _) (fun _ => rfl)
    (fun (pre : List Pc5) W => Boxed W w.heap.size 3 (.int .i64 (sumW pre)) ∧ Below w.heap.size w W)
    (fun s W W' row hs hg hr => ⟨boxed_from hs.1 hg hr, hs.2.grown hg hs.2.size (fun k e => Nat.le_trans (by have := HS4.out; omega) (hr k e).1)⟩)
    ⟨HX4.out, HB4.out⟩
    (fun x => .cells (pcA x) 82)
    (fun x v => { tmps := #[.slice A n c, undef, .int .i64 0, .pointer (some ⟨w.heap.size, 0, none⟩), .pointer (some ⟨v, 0, none⟩), .slice A n c, .func (.func 46) #[] #[.pointer (some ⟨w2.heap.size, 0, none⟩), .pointer (some ⟨w2.heap.size + 1, 0, none⟩)], .agg (pcA x), undef, undef, undef, undef, undef, undef, undef, undef, undef, undef], defers := [] }) ?assign ?body ?done
  case assign =>
    intro l x W K hK
    unfold encP
    unfold pcA at *
    gi_wp2
    exact hK
  case body =>
    rintro l pre p v W ⟨hbl, hB⟩ hv hvw hlen
    have hst : Has W v 82 (pcA p) := hv
    unfold pcA at *
    have HB5 := Lib.hid hB; have HBL := Lib.hid hbl
    have HFJ := Lib.hid (sumW_snoc pre p)
    have q1 : W.cell? ⟨v, 1, none⟩ = some (.int .i64 p.s.lo) := hst.cell 1
    have q2 : W.cell? ⟨v, 2, none⟩ = some (.int .i64 p.s.hi) := hst.cell 2
    have c7 := hbl.cell
    have f7 := hbl.frozen
    generalize sumW pre = N at *
    clear hst hv hB hlen hbl
    gi_wp2
    refine ⟨KeepsOthers.setCell _ _ _, ⟨(Below.refl _ _).setCell (p := ⟨w.heap.size, 0, none⟩) (by simp) _, fun g cs hh => hh.apart (p := ⟨w.heap.size, 0, none⟩) (Has.other hh (show Has W w.heap.size 3 #[.int .i64 N] from HBL.out) (by decide)) _⟩, ?_⟩
    dsimp only
    rw [HFJ.out]
    exact ⟨HBL.out.set _, HB5.out.setCell (p := ⟨w.heap.size, 0, none⟩) (by simp) _⟩
  case done =>
    rintro D ys W hD ⟨L, hp, hso, rfl⟩ ⟨hbl, hB⟩ hK
    have e1 := sumW_total hp hso (by rw [HLN.out]; exact HN.out)
    rw [e1] at hbl
    have c2 := hbl.cell
    have HB5 := Lib.hid hB
    clear hbl hB hp hso e1
    gi_wp2
    refine ⟨by simp, .inl ⟨_, _, rfl, run_takeDeferred hK, ?_⟩⟩
    exact ⟨_, results_tmp rfl _ _ _, rfl, HB5.out.trans (belowK_b (w := w) (Nat.le_refl _) W D _ _ (by have := HS4.out; omega) hK rfl rfl)⟩

end Go.Proofs.Yteioefgckigbcaa
