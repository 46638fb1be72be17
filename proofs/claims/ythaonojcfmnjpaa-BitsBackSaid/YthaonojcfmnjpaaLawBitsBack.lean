/-
  BitsBack: what was put comes out again by the same widths, and only noughts, fewer than eight, are left.
-/
import Derived.Test.YthaonojcfmnjpaaLawItems
import Derived.Deep.DeepCutAuto
import Derived.Maps.AppendAt
import Derived.OwnWalk
import Derived.Deep.LoopGhost
namespace Go.Proofs.Ythaonojcfmnjpaa
open Go.RowKit Go.WideShapes
open BitsM

/-! The plain part -/
theorem bitAt_out (bs : List Bool) (p : Nat) : bitAt (outBytes bs) p = bs.getD p false := by
  unfold bitAt outBytes
  by_cases h : p / 8 < (bs.length + 7) / 8
  · rw [List.getD_eq_getElem?_getD (l := List.map _ _), List.getElem?_map, List.getElem?_range h]
    simp only [Option.map_some, Option.getD_some]
    rw [byteAt_testBit]
    have e1 : 7 - p % 8 < 8 := by omega
    have e2 : 8 * (p / 8) + (7 - (7 - p % 8)) = p := by omega
    rw [e2]
    simp [e1]
  · rw [List.getD_eq_getElem?_getD (l := List.map _ _), List.getElem?_eq_none (by simp; omega)]
    rw [List.getD_eq_getElem?_getD, List.getElem?_eq_none (by omega)]
    simp
theorem bitsFrom_out (pre m post : List Bool) : bitsFrom (outBytes (pre ++ m ++ post)) pre.length m.length = m := by
  unfold bitsFrom
  apply List.ext_getElem?
  intro i
  rw [List.getElem?_map]
  by_cases h : i < m.length
  · rw [List.getElem?_range h]
    simp only [Option.map_some]
    rw [bitAt_out, List.getD_eq_getElem?_getD, List.append_assoc, List.getElem?_append_right (by omega)]
    rw [show pre.length + i - pre.length = i from by omega, List.getElem?_append_left h, List.getElem?_eq_getElem h]
    rfl
  · rw [List.getElem?_eq_none (by simp; omega), List.getElem?_eq_none (by omega)]
    rfl
theorem bitsFrom_tail (bs : List Bool) (p k : Nat) (h : bs.length ≤ p) : num (bitsFrom (outBytes bs) p k) = 0 := by
  have e : bitsFrom (outBytes bs) p k = List.replicate k false := by
    unfold bitsFrom
    apply List.ext_getElem?
    intro i
    rw [List.getElem?_map]
    by_cases hi : i < k
    · rw [List.getElem?_range hi]
      simp only [Option.map_some]
      rw [bitAt_out, List.getD_eq_getElem?_getD, List.getElem?_eq_none (by omega)]
      simp [hi]
    · rw [List.getElem?_eq_none (by simp; omega), List.getElem?_eq_none (by simp; omega)]
      rfl
  rw [e]
  apply Nat.eq_of_testBit_eq
  intro j
  rw [num_testBit]
  simp [List.getD_eq_getElem?_getD, List.getElem?_replicate]
  intro _
  split <;> rfl

/-- What was put, of the first j items. -/
def ins (l : List (Int × Int)) : Nat → List (Int × Int)
  | 0 => []
  | j + 1 => if putE (puts l j) (l.getD j (0, 0)).1 (l.getD j (0, 0)).2 = 0 then ins l j ++ [l.getD j (0, 0)] else ins l j
def pack (x : Int × Int) : List Bool := wbits x.1.toNat x.2.toNat x.2.toNat
def packs (L : List (Int × Int)) : List Bool := L.flatMap pack
theorem puts_ins (l : List (Int × Int)) (j : Nat) (h : j ≤ l.length) : puts l j = packs (ins l j) := by
  induction j with
  | zero => simp [puts_zero, ins, packs]
  | succ j ih =>
    rw [puts_succ l j (by omega)]
    unfold ins
    split
    · rename_i he
      rw [putB_ok he, ih (by omega)]
      simp [packs, pack]
    · rename_i he
      rw [putB_no he, ih (by omega)]
theorem ins_good (l : List (Int × Int)) (j : Nat) : ∀ x ∈ ins l j, 1 ≤ x.2 ∧ x.2 ≤ 32 ∧ 0 ≤ x.1 ∧ x.1 < ((2 ^ x.2.toNat : Nat) : Int) := by
  induction j with
  | zero => intro x hx; simp [ins] at hx
  | succ j ih =>
    intro x hx
    unfold ins at hx
    split at hx
    · rename_i he
      rw [List.mem_append, List.mem_singleton] at hx
      rcases hx with hx | rfl
      · exact ih x hx
      · have := of_decide_eq_true (putE_ok.1 he)
        exact ⟨this.1, this.2.1, this.2.2.1, this.2.2.2.1⟩
    · exact ih x hx
theorem ins_len (l : List (Int × Int)) (j : Nat) : (ins l j).length ≤ j := by
  induction j with
  | zero => simp [ins]
  | succ j ih => unfold ins; split <;> first | omega | (rw [List.length_append, List.length_singleton]; omega)
theorem pack_length (x : Int × Int) : (pack x).length = x.2.toNat := by simp [pack, wbits_length]
theorem packs_append (a b : List (Int × Int)) : packs (a ++ b) = packs a ++ packs b := by simp [packs]
theorem packs_one (x : Int × Int) : packs [x] = pack x := by simp [packs]
theorem packs_get (L : List (Int × Int)) (i : Nat) (h : i < L.length) (hg : ∀ x ∈ L, 1 ≤ x.2 ∧ x.2 ≤ 32 ∧ 0 ≤ x.1 ∧ x.1 < ((2 ^ x.2.toNat : Nat) : Int)) :
    num (bitsFrom (outBytes (packs L)) (packs (L.take i)).length (L[i]).2.toNat) = (L[i]).1.toNat ∧ (packs (L.take (i + 1))).length = (packs (L.take i)).length + (L[i]).2.toNat ∧
    (packs (L.take i)).length + (L[i]).2.toNat ≤ (packs L).length := by
  have hL : L = L.take i ++ [L[i]] ++ L.drop (i + 1) := by
    rw [← List.take_succ_eq_append_getElem h, List.take_append_drop]
  have e : packs L = packs (L.take i) ++ pack L[i] ++ packs (L.drop (i + 1)) := by
    conv => lhs; rw [hL]
    rw [packs_append, packs_append, packs_one]
  have hgi := hg L[i] (List.getElem_mem h)
  refine ⟨?_, ?_, ?_⟩
  · rw [e, ← pack_length, bitsFrom_out]
    exact num_wbits _ _ (by omega)
  · rw [List.take_succ_eq_append_getElem h, packs_append, packs_one, List.length_append, pack_length]
  · rw [e, List.length_append, List.length_append, pack_length]
    omega

/-- The items' cells, one behind the other. -/
def flat (L : List (Int × Int)) : List Value := L.flatMap fun x => [.int .i64 x.1, .int .i64 x.2]
theorem flat_length (L : List (Int × Int)) : (flat L).length = L.length * 2 := by
  induction L with
  | nil => rfl
  | cons x r ih => simp [flat] at ih ⊢; omega
theorem flat_snoc (L : List (Int × Int)) (x : Int × Int) : flat (L ++ [x]) = flat L ++ [.int .i64 x.1, .int .i64 x.2] := by simp [flat]
theorem flat_get (L : List (Int × Int)) (i : Nat) (h : i < L.length) : (flat L)[i * 2]? = some (.int .i64 (L[i]).1) ∧ (flat L)[i * 2 + 1]? = some (.int .i64 (L[i]).2) := by
  induction L generalizing i with
  | nil => simp at h
  | cons x r ih =>
    cases i with
    | zero => simp [flat]
    | succ i =>
      have := ih i (by simpa using h)
      have e : flat (x :: r) = [.int .i64 x.1, .int .i64 x.2] ++ flat r := by simp [flat]
      rw [e, List.getElem?_append_right (by simp; omega), List.getElem?_append_right (by simp; omega)]
      simp only [List.length_cons, List.length_nil, List.getElem_cons_succ]
      rw [show (i + 1) * 2 - (0 + 1 + 1) = i * 2 from by omega, show (i + 1) * 2 + 1 - (0 + 1 + 1) = i * 2 + 1 from by omega]
      exact this

theorem own_item {w : World} {base : Nat} {e : TypeId} {A : Option Addr} {c : Nat} {L : List (Int × Int)} (h : w.ownsRow base e 2 (.slice A L.length c) L.length (flat L)) {i : Nat} (hi : i < L.length) :
    ∃ g, A = some ⟨g, 0, none⟩ ∧ w.cell? ⟨g, i * 2, none⟩ = some (.int .i64 (L[i]).1) ∧ w.cell? ⟨g, i * 2 + 1, none⟩ = some (.int .i64 (L[i]).2) := by
  rcases h.2 with ⟨e, e0⟩ | ⟨g, cap, cur, e, _⟩
  · omega
  · injection e with e1 e2 e3
    subst e1
    have h0 := h.cells (g := g) rfl (i * 2) _ (flat_get L i hi).1
    have h1 := h.cells (g := g) rfl (i * 2 + 1) _ (flat_get L i hi).2
    rw [add_plain, Nat.zero_add] at h0 h1
    exact ⟨g, rfl, h0, h1⟩

theorem item_info : (Try.prog.info? 33).map (fun i => (i.zero, i.size, i.bytes)) = some (some (.agg #[.int .i64 0, .int .i64 0]), 2, 16) := by kernel_rfl

set_option maxHeartbeats 1000000 in
theorem bitsBack_out (A : Option Addr) (n c : Nat) (w : World) (h : 400 < n) :
    Calls Try.prog 5 #[.slice A n c] w fun e w' => e = .returned (.bool true) ∧ Below w.heap.size w w' := by
  have h1 : 400 < (n : Int) := by omega
  go_enter Try.func5, Try.ntmps5
  go_wp2_with (first | (go_at_call 10; refine (awake_any _).mono ?_; rintro e w1 ⟨rfl, hb1⟩))
  go_ret
  exact ⟨rfl, hb1⟩

set_option maxRecDepth 100000 in
set_option maxHeartbeats 2000000 in
theorem bitsBack_in (A : Option Addr) (n c : Nat) (l : List (Int × Int)) (w : World) (hl : InItems w A n l) (hn : n ≤ 400) :
    Calls Try.prog 5 #[.slice A n c] w fun e w' => e = .returned (.bool true) ∧ Below w.heap.size w w' := by
  have h3 : ¬ 400 < (n : Int) := by omega
  have HI := Lib.hid hl; clear hl
  go_enter Try.func5, Try.ntmps5
  go_wp2_with (first
    | (go_at_call 10; refine (awake_any _).mono ?_; rintro e w1 ⟨rfl, hb1⟩)
    | (with_reducible refine wpList_zeroed (o := ⟨some 22, _, _, _, _, _⟩) rfl 27 rfl (wcells []) built_writer ?_))
  have HB1 := Lib.hid hb1; clear hb1
  go_loopw [5, 6] (fun v i wr => ∃ (j : Nat) (A2 : Option Addr) (c2 : Nat), j ≤ n ∧ i = .int .i64 j ∧ v = .slice A2 (ins l j).length c2 ∧ IsW wr w1.heap.size (puts l j) ∧
    wr.ownsRow w.heap.size 33 2 (.slice A2 (ins l j).length c2) (ins l j).length (flat (ins l j)) ∧ Below w.heap.size w wr) (fun _ i _ => n - (intOf i).toNat)
  case atStart => exact ⟨0, none, 0, by omega, rfl, rfl, isW_new w1, World.ownsRow_nil _ _ _ _, HB1.out.alloc HB1.out.size _⟩
  case round =>
    obtain ⟨j, A2, c2, hj, rfl, rfl, hw, ho, hb⟩ := hrel
    by_cases hlt : j < n
    · obtain ⟨b, off, rfl, hc0, hc1⟩ := items_at HI.out hb hlt
      obtain ⟨y0, hy0⟩ : ∃ x, x = (l.getD j (0, 0)).1 := ⟨_, rfl⟩
      obtain ⟨y1, hy1⟩ : ∃ x, x = (l.getD j (0, 0)).2 := ⟨_, rfl⟩
      rw [← hy0] at hc0
      rw [← hy1] at hc1
      have HY0 := Lib.hid hy0; clear hy0
      have HY1 := Lib.hid hy1; clear hy1
      have HW := Lib.hid hw; clear hw
      have HB := Lib.hid hb; clear hb
      have HO := Lib.hid ho; clear ho
      have hlj := ins_len l j
      obtain ⟨m, hm⟩ : ∃ m, m = (ins l j).length := ⟨_, rfl⟩
      rw [← hm] at HO hlj
      rw [← hm]
      have HM := Lib.hid hm; clear hm
      go_wp2_with fail
      go_still_tail 11, (by kernel_rfl)
      change wpList _ _ _ _ _ wr.drew
      obtain ⟨E, hE⟩ : ∃ E, E = putE (puts l j) y0 y1 := ⟨_, rfl⟩
      have c5 := put_any w1.heap.size (puts l j) y0 y1 wr.drew (HW.out.draws 1)
      rw [← hE] at c5
      have HE := Lib.hid hE; clear hE
      go_wp2_with fail
      refine c5.mono ?_
      clear c5
      rintro e w2 ⟨rfl, hw2, hg2⟩
      have hne : (Value.slice A2 m c2).ownBlock ≠ some w1.heap.size := own_apart HO.out HW.out.2 (by decide)
      have HO2 := Lib.hid (own_keep (HO.out.kept (only_draw (only_refl wr none)) (by cases (Value.slice A2 m c2).ownBlock with | none => exact .inl rfl | some k => exact .inr (by simp))) hg2 hne)
      have HB2 : Hid (Below w.heap.size w w2) := below_only (below_draws HB.out 1) hg2 HB.out.size HB1.out.size
      have HW2 := Lib.hid hw2; clear hw2 hg2 hne
      by_cases hput : E = 0
      · obtain ⟨b', off', e', hd0, hd1⟩ := items_at HI.out HB2.out hlt
        simp only [Option.some.injEq, Addr.mk.injEq, and_true] at e'
        obtain ⟨rfl, rfl⟩ := e'
        rw [← HY0.out] at hd0
        rw [← HY1.out] at hd1
        have HN := Lib.hid (show ([.int .i64 y0, .int .i64 y1] : List Value).length = 1 * 2 from rfl)
        have HO3 := Lib.hid (HO2.out.alloc (Obj.cells #[.int .i64 y0, .int .i64 y1] 33))
        have HC : Hid (∀ j u, ([.int .i64 y0, .int .i64 y1] : List Value)[j]? = some u → (w2.alloc (.cells #[.int .i64 y0, .int .i64 y1] 33)).cell? ((⟨w2.heap.size, 0, none⟩ : Addr).add j) = some u) := by
          intro k u hu
          rw [add_plain, (Has.made w2 33 #[.int .i64 y0, .int .i64 y1]).cell, Nat.zero_add]
          simpa using hu
        have H1 : Hid (∀ u ∈ ([.int .i64 y0, .int .i64 y1] : List Value), u.oneCell' = true) := by
          intro u hu
          simp only [List.mem_cons, List.not_mem_nil, or_false] at hu
          rcases hu with rfl | rfl <;> rfl
        have HBD : Hid (m + 1 ≤ maxLen ∧ (m + 1) * 16 ≤ 140737488355328 ∧ w.heap.size ≤ (w2.alloc (.cells #[.int .i64 y0, .int .i64 y1] 33)).heap.size) := by
          refine ⟨by unfold maxLen; omega, by omega, ?_⟩
          have := HB2.out.size
          simp
          omega
        have HW3 := Lib.hid (show IsW (w2.alloc (Obj.cells #[.int .i64 y0, .int .i64 y1] 33)) w1.heap.size (putB (puts l j) y0 y1) from ⟨HW2.out.1, HW2.out.2.beside (Obj.cells #[.int .i64 y0, .int .i64 y1] 33)⟩)
        have HB3 := Lib.hid (HB2.out.alloc HB2.out.size (Obj.cells #[.int .i64 y0, .int .i64 y1] 33))
        have HE' := HE.out
        rw [hput] at HE'
        have HE2 := Lib.hid HE'; clear HE'
        subst hput
        go_wp2_with (with_reducible refine wpList_push (o := ⟨some 49, _, _, _, _, _⟩) rfl (.tmp 43) (.tmp 48) 22 rfl w.heap.size 33 (.agg #[.int .i64 0, .int .i64 0]) 2 16 Try.underlying22 item_info ?hz (by decide) A2 m c2 (flat (ins l j)) ?hs HO3 ⟨w2.heap.size, 0, none⟩ 1 1 [.int .i64 y0, .int .i64 y1] ?hx HN HC H1 HBD ?next)
        case hz => rfl
        case hs => rfl
        case hx => rfl
        case next =>
          intro A4 c4 w4 ho4 hg4
          go_wp2
          go_roundw
          case rel =>
            have hins : ins l (j + 1) = ins l j ++ [(y0, y1)] := by
              show (if _ then _ else _) = _
              rw [← HY0.out, ← HY1.out, if_pos HE2.out.symm, HY0.out, HY1.out]
            have hlen' : (ins l (j + 1)).length = m + 1 := by rw [hins, List.length_append, ← HM.out]; rfl
            refine ⟨j + 1, A4, c4, by omega, by go_num, by rw [hlen'], ?_, ?_, ?_⟩
            · rw [puts_succ l j (by have := HI.out.1; omega), ← HY0.out, ← HY1.out]
              exact HW3.out.keep hg4.out (by simpa using (own_apart HO3.out HW3.out.2 (by decide)).symm)
            · rw [hlen', hins, flat_snoc]
              exact ho4.out
            · exact below_own HB3.out HBD.out.2.2 HO3.out (Nat.le_refl _) rfl hg4.out
          case measure => simp [intOf]; omega
      · have hE0 : (E == 0) = false := by simpa using hput
        go_wp2_with fail
        go_roundw
        case rel =>
          have hins : ins l (j + 1) = ins l j := by
            show (if _ then _ else _) = _
            rw [← HY0.out, ← HY1.out, if_neg (by rw [← HE.out]; exact hput)]
          refine ⟨j + 1, A2, c2, by omega, by go_num, by rw [hins, HM.out], ?_, ?_, HB2.out⟩
          · rw [puts_succ l j (by have := HI.out.1; omega), ← HY0.out, ← HY1.out]
            exact HW2.out
          · rw [hins, ← HM.out]
            exact HO2.out
        case measure => simp [intOf]; omega
    · obtain rfl : j = n := by omega
      clear hlt
      obtain ⟨L, hL⟩ : ∃ L, L = ins l j := ⟨_, rfl⟩
      have hgood := ins_good l j
      have hpl := puts_ins l j (by have := HI.out.1; omega)
      have hLl := ins_len l j
      rw [← hL] at hgood hpl ho hLl
      rw [← hL]
      rw [hpl] at hw
      clear hL hpl
      have HGD := Lib.hid hgood; clear hgood
      have HW := Lib.hid hw; clear hw
      have HB := Lib.hid hb; clear hb
      have HO := Lib.hid ho; clear ho
      go_wp2_with fail
      refine (bytes_any _ _ _ HW.out).mono ?_
      rintro e w3 ⟨rfl, h3', hb3⟩
      have HX3 := Lib.hid (At8.of_has h3'); clear h3'
      have HW3 := Lib.hid (HW.out.under hb3 (Nat.le_refl _))
      have HO3 := Lib.hid (own_under HO.out hb3 (Nat.le_refl _))
      have HB3 := Lib.hid (HB.out.trans (hb3.mono HB.out.size)); clear hb3 HW HO HB
      have hxl : (outBytes (packs L)).length ≤ 1023 := by have := HW3.out.1; rw [outBytes_length]; omega
      go_wp2_with fail
      refine (read_any _ _ (outBytes (packs L)) w3 HX3.out (by omega) (by
        intro x hx
        simp only [outBytes, List.mem_map] at hx
        obtain ⟨i, _, rfl⟩ := hx
        exact byteAt_lt _ _)).mono ?_
      rintro e w4 ⟨gr, rfl, hgr, hr4, hb4⟩
      have hne4 : w1.heap.size ≠ gr := by have := HW3.out.2.lt; omega
      have HNE := Lib.hid hne4; clear hne4
      have HG := Lib.hid (Nat.le_trans HB3.out.size hgr); clear hgr
      have HR4 := Lib.hid hr4; clear hr4
      have HW4 := Lib.hid (HW3.out.under hb4 (Nat.le_refl _))
      have HO4 := Lib.hid (own_under HO3.out hb4 (Nat.le_refl _))
      have HB4 := Lib.hid (HB3.out.trans (hb4.mono HB3.out.size)); clear hb4 HW3 HO3 HB3 HX3
      go_wp2_with fail
      go_loopw [8] (fun v wr => ∃ i : Nat, i ≤ L.length ∧ v = .int .i64 i ∧ IsR wr gr (outBytes (packs L)) (packs (L.take i)).length ∧ IsW wr w1.heap.size (packs L) ∧
        wr.ownsRow w.heap.size 33 2 (.slice A2 L.length c2) L.length (flat L) ∧ Below w.heap.size w wr) (fun v _ => L.length - (intOf v).toNat)
      case atStart => exact ⟨0, by omega, rfl, HR4.out, HW4.out, HO4.out, HB4.out⟩
      case round =>
        obtain ⟨i, hi, rfl, hr, hw, ho, hb⟩ := hrel
        clear HR4 HW4 HO4 HB4
        by_cases hlt : i < L.length
        · obtain ⟨go, rfl, hc0, hc1⟩ := own_item ho hlt
          obtain ⟨q1, q2, q3⟩ := packs_get L i hlt HGD.out
          have hgi := HGD.out _ (List.getElem_mem hlt)
          obtain ⟨X0, hX0⟩ := Int.eq_ofNat_of_zero_le hgi.2.2.1
          obtain ⟨X1, hX1⟩ := Int.eq_ofNat_of_zero_le (show 0 ≤ (L[i]).2 by omega)
          rw [hX0] at hc0 q1
          rw [hX1] at hc1 q1 q2 q3 hgi
          rw [Int.toNat_natCast, Int.toNat_natCast] at q1
          rw [Int.toNat_natCast] at q2 q3
          have hX1b : 1 ≤ X1 ∧ X1 ≤ 32 := by omega
          obtain ⟨p, hp⟩ : ∃ p, p = (packs (L.take i)).length := ⟨_, rfl⟩
          rw [← hp] at hr q1 q2 q3
          have c5 := get_any gr (outBytes (packs L)) p (X1 : Int) wr hr
          have hfit : p + X1 ≤ 8 * (outBytes (packs L)).length := by rw [outBytes_length]; omega
          obtain ⟨e1, e2, e3⟩ := got_yes (xs := outBytes (packs L)) (p := p) (k := (X1 : Int)) (by omega) (by omega) (by rw [Int.toNat_natCast]; exact hfit)
          rw [e1, e2, e3, Int.toNat_natCast, q1] at c5
          have HX0 := Lib.hid hX0
          clear e1 e2 e3 q1 q3 hfit hX0 hX1 hgi
          have HP := Lib.hid hp; clear hp
          have HQ := Lib.hid q2; clear q2
          have HR := Lib.hid hr; clear hr
          have HW := Lib.hid hw; clear hw
          have HO := Lib.hid ho; clear ho
          have HB := Lib.hid hb; clear hb
          go_wp2_with fail
          refine c5.mono ?_
          clear c5
          rintro e w5 ⟨rfl, hr5, hg5⟩
          obtain ⟨_, _, hhas, _⟩ := HR.out
          have hno := own_apart HO.out hhas (by decide)
          have HO5 := Lib.hid (own_keep HO.out hg5 hno)
          have HW5 := Lib.hid (HW.out.keep hg5 (by have := HNE.out; simpa using this))
          have HB5 := Lib.hid (below_only HB.out hg5 HB.out.size HG.out)
          have HR5 := Lib.hid hr5
          clear hr5 hg5 hhas hno hc0 hc1
          obtain ⟨go', e', hd0, hd1⟩ := own_item HO5.out hlt
          simp only [Option.some.injEq, Addr.mk.injEq, and_true] at e'
          subst e'
          rw [HX0.out] at hd0
          clear hd1
          go_wp2
          go_roundw
          case rel => exact ⟨i + 1, by omega, by go_num, by rw [HQ.out]; exact HR5.out, HW5.out, HO5.out, HB5.out⟩
          case measure => simp [intOf]; omega
        · obtain rfl : i = L.length := by omega
          rw [List.take_length] at hr
          obtain ⟨p, hp⟩ : ∃ p, p = (packs L).length := ⟨_, rfl⟩
          have hpl : p ≤ 8184 := by rw [hp]; exact hw.1
          have hxl' : (outBytes (packs L)).length = (p + 7) / 8 := by rw [outBytes_length, hp]
          have c5 := len_any _ _ wr hw
          rw [← hp] at hr c5
          have c6 := left_any gr _ p wr hr
          have c4 := at_any gr _ p wr hr
          rw [hxl'] at c6
          have HP := Lib.hid hp; clear hp
          have HX := Lib.hid hxl'; clear hxl'
          have HR := Lib.hid hr; clear hr
          have HB := Lib.hid hb; clear hb
          clear ho hw hi hlt
          have hle7 : ¬ (7 : Int) < ((8 * ((p + 7) / 8) - p : Nat) : Int) := by omega
          go_wp2_with fail
          refine c4.mono ?_
          clear c4
          rintro e w5 ⟨rfl, rfl⟩
          go_wp2_with fail
          refine c5.mono ?_
          clear c5
          rintro e w5 ⟨rfl, rfl⟩
          go_wp2_with fail
          refine c6.mono ?_
          clear c6
          rintro e w5 ⟨rfl, n5, rfl⟩
          go_wp2_with fail
          go_loopg [] 8 (fun k wl => ∃ q : Nat, p ≤ q ∧ q ≤ 8 * ((p + 7) / 8) ∧ 8 * ((p + 7) / 8) - q ≤ k ∧ IsR wl gr (outBytes (packs L)) q ∧ Below w.heap.size w wl)
          case atStart => exact ⟨p, by omega, by omega, by omega, isR_draws HR.out n5, below_draws HB.out n5⟩
          case round =>
            obtain ⟨q, hpq, hq8, hqk, hr, hb⟩ := hrel
            clear HR HB
            have HR := Lib.hid hr; clear hr
            have HB := Lib.hid hb; clear hb
            have c6 := left_any gr _ q wr HR.out
            rw [HX.out] at c6
            by_cases hlt : q < 8 * ((p + 7) / 8)
            · have hpos : (0 : Int) < ((8 * ((p + 7) / 8) - q : Nat) : Int) := by omega
              go_wp2_with fail
              refine c6.mono ?_
              clear c6
              rintro e w5 ⟨rfl, n6, rfl⟩
              have c7 := get_any gr (outBytes (packs L)) q 1 _ (isR_draws HR.out n6)
              have hfit : q + (1 : Int).toNat ≤ 8 * (outBytes (packs L)).length := by rw [HX.out]; show q + 1 ≤ _; omega
              obtain ⟨e1, e2, e3⟩ := got_yes (xs := outBytes (packs L)) (p := q) (k := (1 : Int)) (by omega) (by omega) hfit
              rw [e1, e2, e3, bitsFrom_tail _ _ _ (by rw [← HP.out]; exact hpq)] at c7
              clear e1 e2 e3 hfit
              go_wp2_with fail
              refine c7.mono ?_
              clear c7
              rintro e w7 ⟨rfl, hr7, hg7⟩
              have HR7 := Lib.hid hr7
              have HB7 := Lib.hid (below_only (below_draws HB.out n6) hg7 HB.out.size HG.out)
              clear hr7 hg7
              go_wp2
              go_roundg (gk - 1)
              case measure => omega
              case rel => exact ⟨q + 1, by omega, by omega, by omega, HR7.out, HB7.out⟩
            · have hpos : ¬ (0 : Int) < ((8 * ((p + 7) / 8) - q : Nat) : Int) := by omega
              go_wp2_with fail
              refine c6.mono ?_
              clear c6
              rintro e w5 ⟨rfl, n6, rfl⟩
              go_wp2
              go_ret
              exact ⟨rfl, below_draws HB.out n6⟩

theorem bitsBack_walk (A : Option Addr) (n c : Nat) (l : List (Int × Int)) (w : World) (h : InItems w A n l) :
    Calls Try.prog 5 #[.slice A n c] w fun e w' => e = .returned (.bool true) ∧ Below w.heap.size w w' := by
  by_cases hin : n ≤ 400
  · exact bitsBack_in A n c l w h hin
  · exact bitsBack_out A n c w (by omega)
end Go.Proofs.Ythaonojcfmnjpaa
