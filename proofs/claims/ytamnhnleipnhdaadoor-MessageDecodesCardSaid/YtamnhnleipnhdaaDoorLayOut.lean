/-
  package packet's oneOrMore, report, authority, layout: the table of a packet's variables.
-/
import Derived.Test.YtamnhnleipnhdaaDoorMgG

import Derived.Test.YtamnhnleipnhdaaDoorMgD

namespace Go.Proofs.YtamnhnleipnhdaaDoor

open Go.RowKit

def omPts (l : List Pt) : List Pt := plainPts [6, 7, 8] ++ (l ++ ([.mk 27 0 (l ++ [])] ++ []))
def reportPts (gs : List Nat) : List Pt := plainPts [7, 8] ++ (plainPts gs ++ (plainPts [13, 14, 15, 16, 17] ++ ([.mk 18 2 (plainPts [19])] ++ (plainPts [20, 21, 22] ++ ([.mk 23 1 (plainPts [24])] ++ [])))))

theorem cat_lit (lo : Nat) (L : List PlT) (w : World) (hn : L.length ≤ 100) (hx : ∀ x ∈ L, Parts lo w.heap.size w x.1 x.2.1 x.2.2.1 x.2.2.2 ∧ x.2.1 ≤ 100) (hlo : lo ≤ w.heap.size) :
    Calls Tryd.prog 94 #[.slice (some ⟨w.heap.size, 0, none⟩) L.length L.length] (w.alloc (.cells (pls L).toArray 123)) fun e w' => ∃ A' n' c', e = .returned (.slice A' n' c') ∧ Parts lo w'.heap.size w' A' n' c' (ptsOf L) ∧ Below w.heap.size w w' :=
  (concat_lit lo L w hn hx hlo).mono fun _ _ ⟨A', c', h1, h2, h3⟩ => ⟨A', _, c', h1, h2, h3⟩
theorem ifAny_lit (lo v k : Nat) (vs : List Nat) (w : World) (hk : k ≠ 0) (hn : vs.length ≤ 100) (hlo : lo ≤ w.heap.size) :
    Calls Tryd.prog 101 #[.int .i64 (v : Int), .slice (some ⟨w.heap.size, 0, none⟩) (onlyOf k).length (onlyOf k).length, .slice (some ⟨w.heap.size + 1, 0, none⟩) vs.length vs.length] ((w.alloc (.cells (nats (onlyOf k)).toArray 3)).alloc (.cells (nats vs).toArray 3)) fun e w' => ∃ A' c', e = .returned (.slice A' 1 c') ∧ Parts lo w'.heap.size w' A' 1 c' [.mk v k (plainPts vs)] ∧ Below w.heap.size w w' := by
  have h1 := slz_made lo w 3 (nats (onlyOf k)) (onlyOf k).length (by simp [nats]) hlo
  have hb : Below w.heap.size w (w.alloc (.cells (nats (onlyOf k)).toArray 3)) := (Below.refl _ w).alloc (Nat.le_refl _) _
  have hsz : (w.alloc (.cells (nats (onlyOf k)).toArray 3)).heap.size = w.heap.size + 1 := by simp
  have hlo1 : lo ≤ (w.alloc (.cells (nats (onlyOf k)).toArray 3)).heap.size := Nat.le_trans hlo hb.size
  generalize w.alloc (.cells (nats (onlyOf k)).toArray 3) = w1 at *
  rw [← hsz]
  have h2 := slz_made lo w1 3 (nats vs) vs.length (by simp [nats]) hlo1
  have hb1 : Below w1.heap.size w1 (w1.alloc (.cells (nats vs).toArray 3)) := (Below.refl _ w1).alloc (Nat.le_refl _) _
  have h3 := h1.keep (zone_below hb1) (Nat.le_refl _) hb1.size
  refine (ifAny_parts lo v k _ _ _ vs.length vs.length vs _ hk h3 h2.sl hn (Nat.le_trans hlo1 hb1.size)).mono ?_
  rintro e w' ⟨A', c', rfl, hp, hb2⟩
  exact ⟨A', c', rfl, hp, (hb.trans (hb1.mono hb.size)).trans (hb2.mono (hb.trans (hb1.mono hb.size)).size)⟩

set_option maxHeartbeats 2000000 in
theorem oneOrMore_parts (lo : Nat) (A : Option Addr) (n c : Nat) (L : List PlT) (w0 : World) (hs : Sl w0 1 A n c (pls L)) (hn : n ≤ 100) (hx : ∀ x ∈ L, Parts lo w0.heap.size w0 x.1 x.2.1 x.2.2.1 x.2.2.2 ∧ x.2.1 ≤ 100) (hlo : lo ≤ w0.heap.size) (hsum : (ptsOf L).length ≤ 50) :
    Calls Tryd.prog 97 #[.slice A n c] w0 fun e w' => ∃ A' n' c', e = .returned (.slice A' n' c') ∧ Parts lo w'.heap.size w' A' n' c' (omPts (ptsOf L)) ∧ Below w0.heap.size w0 w' := by
  have HB0 := Lib.hid (Below.refl w0.heap.size w0)
  have HC := Lib.hid (concat_parts lo A n c L w0 hs hn hx hlo)
  have HSM := Lib.hid hsum
  clear hs hx hsum
  generalize ptsOf L = l at *
  generalize numOf L = nl at *
  go_enter Tryd.func97, Tryd.ntmps97
  go_wp2_with fail
  refine HC.out.mono ?_
  rintro e w1 ⟨Al, cl, rfl, hp, hb⟩
  have HNL : Hid (nl ≤ 100) := Lib.hid (by rw [← hp.len]; have := HSM.out; omega)
  have HB1 := Lib.hid hb
  have HPL1 := Lib.hid hp
  clear hp hb HC HB0
  have HC : Hid (Calls Tryd.prog 95 #[.slice (some ⟨w1.heap.size, 0, none⟩) 3 3] (w1.alloc (.cells #[.int .i64 6, .int .i64 7, .int .i64 8] 3)) fun e w' => ∃ A' c', e = .returned (.slice A' 3 c') ∧ Parts lo w'.heap.size w' A' 3 c' (plainPts [6, 7, 8]) ∧ Below w1.heap.size w1 w') := plain_lit lo [6, 7, 8] w1 (by decide) (Nat.le_trans hlo HB1.out.size)
  go_wp2_with fail
  refine HC.out.mono ?_
  rintro e w2 ⟨A1, c1, rfl, hp, hb⟩
  have HB2 := Lib.hid (HB1.out.trans (hb.mono HB1.out.size))
  have HPL2 := Lib.hid (HPL1.out.under hb)
  have HP2 := Lib.hid hp
  clear hp hb HC HB1 HPL1
  have HC : Hid (Calls Tryd.prog 96 #[.slice (some ⟨w2.heap.size, 0, none⟩) 1 1] (w2.alloc (.cells #[.slice Al nl cl] 123)) fun e w' => ∃ A' c', e = .returned (.slice A' 1 c') ∧ Parts lo w'.heap.size w' A' 1 c' [.mk 27 0 (l ++ [])] ∧ Below w2.heap.size w2 w') := iter_lit lo [(Al, nl, cl, l)] w2 (by simp) (fun x hx => by simp only [List.mem_cons, List.not_mem_nil, or_false] at hx; subst hx; exact ⟨HPL2.out, HNL.out⟩) (Nat.le_trans hlo HB2.out.size)
  go_wp2_with fail
  refine HC.out.mono ?_
  rintro e w3 ⟨A2, c2, rfl, hp, hb⟩
  have HB3 := Lib.hid (HB2.out.trans (hb.mono HB2.out.size))
  have HPL3 := Lib.hid (HPL2.out.under hb)
  have HP3 := Lib.hid (HP2.out.under hb)
  have HQ3 := Lib.hid hp
  clear hp hb HC HB2 HPL2 HP2
  have HC : Hid (Calls Tryd.prog 94 #[.slice (some ⟨w3.heap.size, 0, none⟩) 3 3] (w3.alloc (.cells #[.slice A1 3 c1, .slice Al nl cl, .slice A2 1 c2] 123)) fun e w' => ∃ A' n' c', e = .returned (.slice A' n' c') ∧ Parts lo w'.heap.size w' A' n' c' (omPts l) ∧ Below w3.heap.size w3 w') := cat_lit lo [(A1, 3, c1, plainPts [6, 7, 8]), (Al, nl, cl, l), (A2, 1, c2, [.mk 27 0 (l ++ [])])] w3 (by simp) (fun x hx => by
    simp only [List.mem_cons, List.not_mem_nil, or_false] at hx
    rcases hx with rfl | rfl | rfl
    · exact ⟨HP3.out, by show (3 : Nat) ≤ 100; omega⟩
    · exact ⟨HPL3.out, HNL.out⟩
    · exact ⟨HQ3.out, by show (1 : Nat) ≤ 100; omega⟩) (Nat.le_trans hlo HB3.out.size)
  go_wp2_with fail
  refine HC.out.mono ?_
  rintro e w4 ⟨A4, n4, c4, rfl, hp, hb⟩
  have HB4 := Lib.hid (HB3.out.trans (hb.mono HB3.out.size))
  have HP4 := Lib.hid hp
  clear hp hb HC HB3 HPL3 HP3 HQ3
  go_wp2
  go_ret
  exact ⟨A4, n4, c4, rfl, HP4.out, HB4.out⟩
theorem oneOrMore_lit (lo : Nat) (L : List PlT) (w : World) (hn : L.length ≤ 100) (hx : ∀ x ∈ L, Parts lo w.heap.size w x.1 x.2.1 x.2.2.1 x.2.2.2 ∧ x.2.1 ≤ 100) (hlo : lo ≤ w.heap.size) (hsum : (ptsOf L).length ≤ 50) :
    Calls Tryd.prog 97 #[.slice (some ⟨w.heap.size, 0, none⟩) L.length L.length] (w.alloc (.cells (pls L).toArray 123)) fun e w' => ∃ A' n' c', e = .returned (.slice A' n' c') ∧ Parts lo w'.heap.size w' A' n' c' (omPts (ptsOf L)) ∧ Below w.heap.size w w' := by
  refine (oneOrMore_parts lo _ L.length _ L _ (slz_made lo w _ (pls L) L.length (by simp [pls]) hlo).sl hn (fun x h => ⟨(hx x h).1.beside _, (hx x h).2⟩) (by simp; omega) hsum).mono ?_
  rintro e w' ⟨A', n', c', rfl, hp, hb⟩
  exact ⟨A', n', c', rfl, hp, ((Below.refl _ w).alloc (Nat.le_refl _) _).trans (hb.mono (by simp))⟩
set_option maxRecDepth 100000 in
set_option maxHeartbeats 4000000 in
theorem report_parts (lo : Nat) (A : Option Addr) (n c : Nat) (gs : List Nat) (w0 : World) (hs : Sl w0 1 A n c (nats gs)) (hn : n ≤ 10) (hlo : lo ≤ w0.heap.size) :
    Calls Tryd.prog 93 #[.slice A n c] w0 fun e w' => ∃ A' n' c', e = .returned (.slice A' n' c') ∧ Parts lo w'.heap.size w' A' n' c' (reportPts gs) ∧ Below w0.heap.size w0 w' := by
  have HB0 := Lib.hid (Below.refl w0.heap.size w0)
  have HGS := Lib.hid hs
  clear hs
  go_enter Tryd.func93, Tryd.ntmps93
  have HC : Hid (Calls Tryd.prog 95 #[.slice (some ⟨w0.heap.size, 0, none⟩) 2 2] (w0.alloc (.cells #[.int .i64 7, .int .i64 8] 3)) fun e w' => ∃ A' c', e = .returned (.slice A' 2 c') ∧ Parts lo w'.heap.size w' A' 2 c' (plainPts [7, 8]) ∧ Below w0.heap.size w0 w') := plain_lit lo [7, 8] w0 (by decide) (Nat.le_trans hlo HB0.out.size)
  go_wp2_with fail
  refine HC.out.mono ?_
  rintro e w1 ⟨A0, c0, rfl, hp, hb⟩
  have HB1 := Lib.hid (HB0.out.trans (hb.mono HB0.out.size))
  have HP0_1 := Lib.hid hp
  clear hp hb HC HB0
  have HC := Lib.hid (plain_parts lo A n c gs w1 (HGS.out.under HB1.out) (by omega) (Nat.le_trans hlo HB1.out.size))
  go_wp2_with fail
  refine HC.out.mono ?_
  rintro e w2 ⟨A1, c1, rfl, hp, hb⟩
  have HB2 := Lib.hid (HB1.out.trans (hb.mono HB1.out.size))
  have HP0_2 := Lib.hid (HP0_1.out.under hb)
  have HP1_2 := Lib.hid hp
  clear hp hb HC HB1 HP0_1
  have HC : Hid (Calls Tryd.prog 95 #[.slice (some ⟨w2.heap.size, 0, none⟩) 5 5] (w2.alloc (.cells #[.int .i64 13, .int .i64 14, .int .i64 15, .int .i64 16, .int .i64 17] 3)) fun e w' => ∃ A' c', e = .returned (.slice A' 5 c') ∧ Parts lo w'.heap.size w' A' 5 c' (plainPts [13, 14, 15, 16, 17]) ∧ Below w2.heap.size w2 w') := plain_lit lo [13, 14, 15, 16, 17] w2 (by decide) (Nat.le_trans hlo HB2.out.size)
  go_wp2_with fail
  refine HC.out.mono ?_
  rintro e w3 ⟨A2, c2, rfl, hp, hb⟩
  have HB3 := Lib.hid (HB2.out.trans (hb.mono HB2.out.size))
  have HP0_3 := Lib.hid (HP0_2.out.under hb)
  have HP1_3 := Lib.hid (HP1_2.out.under hb)
  have HP2_3 := Lib.hid hp
  clear hp hb HC HB2 HP0_2 HP1_2
  have HC : Hid (Calls Tryd.prog 101 #[.int .i64 18, .slice (some ⟨w3.heap.size, 0, none⟩) 2 2, .slice (some ⟨w3.heap.size + 1, 0, none⟩) 1 1] ((w3.alloc (.cells #[.int .i64 1, .int .i64 2] 3)).alloc (.cells #[.int .i64 19] 3)) fun e w' => ∃ A' c', e = .returned (.slice A' 1 c') ∧ Parts lo w'.heap.size w' A' 1 c' [.mk 18 2 (plainPts [19])] ∧ Below w3.heap.size w3 w') := ifAny_lit lo 18 2 [19] w3 (by decide) (by decide) (Nat.le_trans hlo HB3.out.size)
  go_wp2_with fail
  refine HC.out.mono ?_
  rintro e w4 ⟨A3, c3, rfl, hp, hb⟩
  have HB4 := Lib.hid (HB3.out.trans (hb.mono HB3.out.size))
  have HP0_4 := Lib.hid (HP0_3.out.under hb)
  have HP1_4 := Lib.hid (HP1_3.out.under hb)
  have HP2_4 := Lib.hid (HP2_3.out.under hb)
  have HP3_4 := Lib.hid hp
  clear hp hb HC HB3 HP0_3 HP1_3 HP2_3
  have HC : Hid (Calls Tryd.prog 95 #[.slice (some ⟨w4.heap.size, 0, none⟩) 3 3] (w4.alloc (.cells #[.int .i64 20, .int .i64 21, .int .i64 22] 3)) fun e w' => ∃ A' c', e = .returned (.slice A' 3 c') ∧ Parts lo w'.heap.size w' A' 3 c' (plainPts [20, 21, 22]) ∧ Below w4.heap.size w4 w') := plain_lit lo [20, 21, 22] w4 (by decide) (Nat.le_trans hlo HB4.out.size)
  go_wp2_with fail
  refine HC.out.mono ?_
  rintro e w5 ⟨A4, c4, rfl, hp, hb⟩
  have HB5 := Lib.hid (HB4.out.trans (hb.mono HB4.out.size))
  have HP0_5 := Lib.hid (HP0_4.out.under hb)
  have HP1_5 := Lib.hid (HP1_4.out.under hb)
  have HP2_5 := Lib.hid (HP2_4.out.under hb)
  have HP3_5 := Lib.hid (HP3_4.out.under hb)
  have HP4_5 := Lib.hid hp
  clear hp hb HC HB4 HP0_4 HP1_4 HP2_4 HP3_4
  have HC : Hid (Calls Tryd.prog 98 #[.int .i64 23, .slice (some ⟨w5.heap.size, 0, none⟩) 1 1] (w5.alloc (.cells #[.int .i64 24] 3)) fun e w' => ∃ A' c', e = .returned (.slice A' 1 c') ∧ Parts lo w'.heap.size w' A' 1 c' [.mk 23 1 (plainPts [24])] ∧ Below w5.heap.size w5 w') := ifOne_lit lo 23 [24] w5 (by decide) (Nat.le_trans hlo HB5.out.size)
  go_wp2_with fail
  refine HC.out.mono ?_
  rintro e w6 ⟨A5, c5, rfl, hp, hb⟩
  have HB6 := Lib.hid (HB5.out.trans (hb.mono HB5.out.size))
  have HP0_6 := Lib.hid (HP0_5.out.under hb)
  have HP1_6 := Lib.hid (HP1_5.out.under hb)
  have HP2_6 := Lib.hid (HP2_5.out.under hb)
  have HP3_6 := Lib.hid (HP3_5.out.under hb)
  have HP4_6 := Lib.hid (HP4_5.out.under hb)
  have HP5_6 := Lib.hid hp
  clear hp hb HC HB5 HP0_5 HP1_5 HP2_5 HP3_5 HP4_5
  have HC : Hid (Calls Tryd.prog 94 #[.slice (some ⟨w6.heap.size, 0, none⟩) 6 6] (w6.alloc (.cells #[.slice A0 2 c0, .slice A1 n c1, .slice A2 5 c2, .slice A3 1 c3, .slice A4 3 c4, .slice A5 1 c5] 123)) fun e w' => ∃ A' n' c', e = .returned (.slice A' n' c') ∧ Parts lo w'.heap.size w' A' n' c' (ptsOf [(A0, 2, c0, (plainPts [7, 8])), (A1, n, c1, (plainPts gs)), (A2, 5, c2, (plainPts [13, 14, 15, 16, 17])), (A3, 1, c3, [.mk 18 2 (plainPts [19])]), (A4, 3, c4, (plainPts [20, 21, 22])), (A5, 1, c5, [.mk 23 1 (plainPts [24])])]) ∧ Below w6.heap.size w6 w') := cat_lit lo [(A0, 2, c0, (plainPts [7, 8])), (A1, n, c1, (plainPts gs)), (A2, 5, c2, (plainPts [13, 14, 15, 16, 17])), (A3, 1, c3, [.mk 18 2 (plainPts [19])]), (A4, 3, c4, (plainPts [20, 21, 22])), (A5, 1, c5, [.mk 23 1 (plainPts [24])])] w6 (by simp) (fun x hx => by
    simp only [List.mem_cons, List.not_mem_nil, or_false] at hx
    rcases hx with rfl | rfl | rfl | rfl | rfl | rfl
    · exact ⟨HP0_6.out, (by show (2 : Nat) ≤ 100; omega)⟩
    · exact ⟨HP1_6.out, (by show (n : Nat) ≤ 100; omega)⟩
    · exact ⟨HP2_6.out, (by show (5 : Nat) ≤ 100; omega)⟩
    · exact ⟨HP3_6.out, (by show (1 : Nat) ≤ 100; omega)⟩
    · exact ⟨HP4_6.out, (by show (3 : Nat) ≤ 100; omega)⟩
    · exact ⟨HP5_6.out, (by show (1 : Nat) ≤ 100; omega)⟩
    ) (Nat.le_trans hlo HB6.out.size)
  go_wp2_with fail
  refine HC.out.mono ?_
  rintro e w7 ⟨A6, n6, c6, rfl, hp, hb⟩
  have HB7 := Lib.hid (HB6.out.trans (hb.mono HB6.out.size))
  have HP6_7 := Lib.hid hp
  clear hp hb HC HB6 HP0_6 HP1_6 HP2_6 HP3_6 HP4_6 HP5_6
  go_wp2
  go_ret
  exact ⟨A6, n6, c6, rfl, HP6_7.out, HB7.out⟩
theorem report_lit (lo : Nat) (vs : List Nat) (w : World) (hn : vs.length ≤ 10) (hlo : lo ≤ w.heap.size) :
    Calls Tryd.prog 93 #[.slice (some ⟨w.heap.size, 0, none⟩) vs.length vs.length] (w.alloc (.cells (nats vs).toArray 3)) fun e w' => ∃ A' n' c', e = .returned (.slice A' n' c') ∧ Parts lo w'.heap.size w' A' n' c' (reportPts vs) ∧ Below w.heap.size w w' := by
  refine (report_parts lo _ vs.length _ vs _ (slz_made lo w _ (nats vs) vs.length (by simp [nats]) hlo).sl hn (by simp; omega)).mono ?_
  rintro e w' ⟨A', n', c', rfl, hp, hb⟩
  exact ⟨A', n', c', rfl, hp, ((Below.refl _ w).alloc (Nat.le_refl _) _).trans (hb.mono (by simp))⟩
/-! What the parts stand for, in the chapter's words. -/
mutual
def ndPt : Pt → List Nd
  | .mk v k b => if k = 3 then [.v v] else [.v v, .g k (ndPts b)]
def ndPts : List Pt → List Nd
  | [] => []
  | x :: l => ndPt x ++ ndPts l
end
set_option maxRecDepth 100000 in
set_option maxHeartbeats 4000000 in
theorem authority_parts (lo : Nat) (w0 : World) (hlo : lo ≤ w0.heap.size) :
    Calls Tryd.prog 99 #[] w0 fun e w' => ∃ A' n' c' l, e = .returned (.slice A' n' c') ∧ Parts lo w'.heap.size w' A' n' c' l ∧ ndPts l = astOf 15 ∧ Below w0.heap.size w0 w' := by
  have HB0 := Lib.hid (Below.refl w0.heap.size w0)
  go_enter Tryd.func99, Tryd.ntmps99
  have HC : Hid (Calls Tryd.prog 98 #[.int .i64 29, .slice (some ⟨w0.heap.size, 0, none⟩) 2 2] (w0.alloc (.cells #[.int .i64 30, .int .i64 31] 3)) fun e w' => ∃ A' c', e = .returned (.slice A' 1 c') ∧ Parts lo w'.heap.size w' A' 1 c' [.mk 29 1 (plainPts [30, 31])] ∧ Below w0.heap.size w0 w') := ifOne_lit lo 29 [30, 31] w0 (by decide) (Nat.le_trans hlo HB0.out.size)
  go_wp2_with fail
  refine HC.out.mono ?_
  rintro e w1 ⟨A0, c0, rfl, hp, hb⟩
  have HB1 := Lib.hid (HB0.out.trans (hb.mono HB0.out.size))
  have HP0_1 := Lib.hid hp
  clear hp hb HC HB0
  have HC : Hid (Calls Tryd.prog 95 #[.slice (some ⟨w1.heap.size, 0, none⟩) 5 5] (w1.alloc (.cells #[.int .i64 6, .int .i64 7, .int .i64 8, .int .i64 25, .int .i64 26] 3)) fun e w' => ∃ A' c', e = .returned (.slice A' 5 c') ∧ Parts lo w'.heap.size w' A' 5 c' (plainPts [6, 7, 8, 25, 26]) ∧ Below w1.heap.size w1 w') := plain_lit lo [6, 7, 8, 25, 26] w1 (by decide) (Nat.le_trans hlo HB1.out.size)
  go_wp2_with fail
  refine HC.out.mono ?_
  rintro e w2 ⟨A1, c1, rfl, hp, hb⟩
  have HB2 := Lib.hid (HB1.out.trans (hb.mono HB1.out.size))
  have HP0_2 := Lib.hid (HP0_1.out.under hb)
  have HP1_2 := Lib.hid hp
  clear hp hb HC HB1 HP0_1
  have HC : Hid (Calls Tryd.prog 95 #[.slice (some ⟨w2.heap.size, 0, none⟩) 1 1] (w2.alloc (.cells #[.int .i64 28] 3)) fun e w' => ∃ A' c', e = .returned (.slice A' 1 c') ∧ Parts lo w'.heap.size w' A' 1 c' (plainPts [28]) ∧ Below w2.heap.size w2 w') := plain_lit lo [28] w2 (by decide) (Nat.le_trans hlo HB2.out.size)
  go_wp2_with fail
  refine HC.out.mono ?_
  rintro e w3 ⟨A2, c2, rfl, hp, hb⟩
  have HB3 := Lib.hid (HB2.out.trans (hb.mono HB2.out.size))
  have HP0_3 := Lib.hid (HP0_2.out.under hb)
  have HP1_3 := Lib.hid (HP1_2.out.under hb)
  have HP2_3 := Lib.hid hp
  clear hp hb HC HB2 HP0_2 HP1_2
  have HC : Hid (Calls Tryd.prog 96 #[.slice (some ⟨w3.heap.size, 0, none⟩) 2 2] (w3.alloc (.cells #[.slice A2 1 c2, .slice A0 1 c0] 123)) fun e w' => ∃ A' c', e = .returned (.slice A' 1 c') ∧ Parts lo w'.heap.size w' A' 1 c' [.mk 27 0 (ptsOf [(A2, 1, c2, (plainPts [28])), (A0, 1, c0, [.mk 29 1 (plainPts [30, 31])])])] ∧ Below w3.heap.size w3 w') := iter_lit lo [(A2, 1, c2, (plainPts [28])), (A0, 1, c0, [.mk 29 1 (plainPts [30, 31])])] w3 (by simp) (fun x hx => by
    simp only [List.mem_cons, List.not_mem_nil, or_false] at hx
    rcases hx with rfl | rfl
    · exact ⟨HP2_3.out, (by show (1 : Nat) ≤ 100; omega)⟩
    · exact ⟨HP0_3.out, (by show (1 : Nat) ≤ 100; omega)⟩
    ) (Nat.le_trans hlo HB3.out.size)
  go_wp2_with fail
  refine HC.out.mono ?_
  rintro e w4 ⟨A3, c3, rfl, hp, hb⟩
  have HB4 := Lib.hid (HB3.out.trans (hb.mono HB3.out.size))
  have HP0_4 := Lib.hid (HP0_3.out.under hb)
  have HP1_4 := Lib.hid (HP1_3.out.under hb)
  have HP3_4 := Lib.hid hp
  clear hp hb HC HB3 HP0_3 HP1_3 HP2_3
  have HC : Hid (Calls Tryd.prog 95 #[.slice (some ⟨w4.heap.size, 0, none⟩) 1 1] (w4.alloc (.cells #[.int .i64 32] 3)) fun e w' => ∃ A' c', e = .returned (.slice A' 1 c') ∧ Parts lo w'.heap.size w' A' 1 c' (plainPts [32]) ∧ Below w4.heap.size w4 w') := plain_lit lo [32] w4 (by decide) (Nat.le_trans hlo HB4.out.size)
  go_wp2_with fail
  refine HC.out.mono ?_
  rintro e w5 ⟨A4, c4, rfl, hp, hb⟩
  have HB5 := Lib.hid (HB4.out.trans (hb.mono HB4.out.size))
  have HP0_5 := Lib.hid (HP0_4.out.under hb)
  have HP1_5 := Lib.hid (HP1_4.out.under hb)
  have HP3_5 := Lib.hid (HP3_4.out.under hb)
  have HP4_5 := Lib.hid hp
  clear hp hb HC HB4 HP0_4 HP1_4 HP3_4
  have HC : Hid (Calls Tryd.prog 98 #[.int .i64 33, .slice (some ⟨w5.heap.size, 0, none⟩) 2 2] (w5.alloc (.cells #[.int .i64 34, .int .i64 35] 3)) fun e w' => ∃ A' c', e = .returned (.slice A' 1 c') ∧ Parts lo w'.heap.size w' A' 1 c' [.mk 33 1 (plainPts [34, 35])] ∧ Below w5.heap.size w5 w') := ifOne_lit lo 33 [34, 35] w5 (by decide) (Nat.le_trans hlo HB5.out.size)
  go_wp2_with fail
  refine HC.out.mono ?_
  rintro e w6 ⟨A5, c5, rfl, hp, hb⟩
  have HB6 := Lib.hid (HB5.out.trans (hb.mono HB5.out.size))
  have HP0_6 := Lib.hid (HP0_5.out.under hb)
  have HP1_6 := Lib.hid (HP1_5.out.under hb)
  have HP3_6 := Lib.hid (HP3_5.out.under hb)
  have HP4_6 := Lib.hid (HP4_5.out.under hb)
  have HP5_6 := Lib.hid hp
  clear hp hb HC HB5 HP0_5 HP1_5 HP3_5 HP4_5
  have HC : Hid (Calls Tryd.prog 98 #[.int .i64 36, .slice (some ⟨w6.heap.size, 0, none⟩) 2 2] (w6.alloc (.cells #[.int .i64 37, .int .i64 38] 3)) fun e w' => ∃ A' c', e = .returned (.slice A' 1 c') ∧ Parts lo w'.heap.size w' A' 1 c' [.mk 36 1 (plainPts [37, 38])] ∧ Below w6.heap.size w6 w') := ifOne_lit lo 36 [37, 38] w6 (by decide) (Nat.le_trans hlo HB6.out.size)
  go_wp2_with fail
  refine HC.out.mono ?_
  rintro e w7 ⟨A6, c6, rfl, hp, hb⟩
  have HB7 := Lib.hid (HB6.out.trans (hb.mono HB6.out.size))
  have HP0_7 := Lib.hid (HP0_6.out.under hb)
  have HP1_7 := Lib.hid (HP1_6.out.under hb)
  have HP3_7 := Lib.hid (HP3_6.out.under hb)
  have HP4_7 := Lib.hid (HP4_6.out.under hb)
  have HP5_7 := Lib.hid (HP5_6.out.under hb)
  have HP6_7 := Lib.hid hp
  clear hp hb HC HB6 HP0_6 HP1_6 HP3_6 HP4_6 HP5_6
  have HC : Hid (Calls Tryd.prog 98 #[.int .i64 39, .slice (some ⟨w7.heap.size, 0, none⟩) 4 4] (w7.alloc (.cells #[.int .i64 40, .int .i64 41, .int .i64 42, .int .i64 43] 3)) fun e w' => ∃ A' c', e = .returned (.slice A' 1 c') ∧ Parts lo w'.heap.size w' A' 1 c' [.mk 39 1 (plainPts [40, 41, 42, 43])] ∧ Below w7.heap.size w7 w') := ifOne_lit lo 39 [40, 41, 42, 43] w7 (by decide) (Nat.le_trans hlo HB7.out.size)
  go_wp2_with fail
  refine HC.out.mono ?_
  rintro e w8 ⟨A7, c7, rfl, hp, hb⟩
  have HB8 := Lib.hid (HB7.out.trans (hb.mono HB7.out.size))
  have HP0_8 := Lib.hid (HP0_7.out.under hb)
  have HP1_8 := Lib.hid (HP1_7.out.under hb)
  have HP3_8 := Lib.hid (HP3_7.out.under hb)
  have HP4_8 := Lib.hid (HP4_7.out.under hb)
  have HP5_8 := Lib.hid (HP5_7.out.under hb)
  have HP6_8 := Lib.hid (HP6_7.out.under hb)
  have HP7_8 := Lib.hid hp
  clear hp hb HC HB7 HP0_7 HP1_7 HP3_7 HP4_7 HP5_7 HP6_7
  have HC : Hid (Calls Tryd.prog 94 #[.slice (some ⟨w8.heap.size, 0, none⟩) 7 7] (w8.alloc (.cells #[.slice A1 5 c1, .slice A3 1 c3, .slice A4 1 c4, .slice A0 1 c0, .slice A5 1 c5, .slice A6 1 c6, .slice A7 1 c7] 123)) fun e w' => ∃ A' n' c', e = .returned (.slice A' n' c') ∧ Parts lo w'.heap.size w' A' n' c' (ptsOf [(A1, 5, c1, (plainPts [6, 7, 8, 25, 26])), (A3, 1, c3, [.mk 27 0 (ptsOf [(A2, 1, c2, (plainPts [28])), (A0, 1, c0, [.mk 29 1 (plainPts [30, 31])])])]), (A4, 1, c4, (plainPts [32])), (A0, 1, c0, [.mk 29 1 (plainPts [30, 31])]), (A5, 1, c5, [.mk 33 1 (plainPts [34, 35])]), (A6, 1, c6, [.mk 36 1 (plainPts [37, 38])]), (A7, 1, c7, [.mk 39 1 (plainPts [40, 41, 42, 43])])]) ∧ Below w8.heap.size w8 w') := cat_lit lo [(A1, 5, c1, (plainPts [6, 7, 8, 25, 26])), (A3, 1, c3, [.mk 27 0 (ptsOf [(A2, 1, c2, (plainPts [28])), (A0, 1, c0, [.mk 29 1 (plainPts [30, 31])])])]), (A4, 1, c4, (plainPts [32])), (A0, 1, c0, [.mk 29 1 (plainPts [30, 31])]), (A5, 1, c5, [.mk 33 1 (plainPts [34, 35])]), (A6, 1, c6, [.mk 36 1 (plainPts [37, 38])]), (A7, 1, c7, [.mk 39 1 (plainPts [40, 41, 42, 43])])] w8 (by simp) (fun x hx => by
    simp only [List.mem_cons, List.not_mem_nil, or_false] at hx
    rcases hx with rfl | rfl | rfl | rfl | rfl | rfl | rfl
    · exact ⟨HP1_8.out, (by show (5 : Nat) ≤ 100; omega)⟩
    · exact ⟨HP3_8.out, (by show (1 : Nat) ≤ 100; omega)⟩
    · exact ⟨HP4_8.out, (by show (1 : Nat) ≤ 100; omega)⟩
    · exact ⟨HP0_8.out, (by show (1 : Nat) ≤ 100; omega)⟩
    · exact ⟨HP5_8.out, (by show (1 : Nat) ≤ 100; omega)⟩
    · exact ⟨HP6_8.out, (by show (1 : Nat) ≤ 100; omega)⟩
    · exact ⟨HP7_8.out, (by show (1 : Nat) ≤ 100; omega)⟩
    ) (Nat.le_trans hlo HB8.out.size)
  go_wp2_with fail
  refine HC.out.mono ?_
  rintro e w9 ⟨A8, n8, c8, rfl, hp, hb⟩
  have HB9 := Lib.hid (HB8.out.trans (hb.mono HB8.out.size))
  have HP8_9 := Lib.hid hp
  clear hp hb HC HB8 HP0_8 HP1_8 HP3_8 HP4_8 HP5_8 HP6_8 HP7_8
  go_wp2
  go_ret
  exact ⟨A8, n8, c8, _, rfl, HP8_9.out, by kernel_rfl, HB9.out⟩
end Go.Proofs.YtamnhnleipnhdaaDoor
