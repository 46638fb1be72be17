/-
  linesideref04.Between: its contract; what an invalid operation draws.
-/
import Derived.Test.YtidokfbjfdkfdaaOdoRef
namespace Go.Proofs.Ytidokfbjfdkfdaa
open Go.RowKit Fl
open Ieee (double)
attribute [local irreducible] N E mval top U

/-- The bits of a NaN that is drawn. -/
def drawn (x y : Nat) (w : World) : Nat := (Question.nanBits .f64 x y).cut (w.tape w.drawn (.nanBits .f64 x y))
theorem drawn_nan (x y : Nat) (w : World) : nanB (drawn x y w) = true ∧ (Lit.float .f64 (drawn x y w)).wf = true := by
  unfold drawn
  generalize w.tape w.drawn (.nanBits .f64 x y) = t
  have e : (Question.nanBits .f64 x y).cut t = (t % 2) * 2 ^ 63 + 0x7ff0000000000000 + 1 + (t / 2) % (2 ^ 52 - 1) := rfl
  rw [e]
  have h1 : t % 2 < 2 := Nat.mod_lt _ (by omega)
  have h2 : t / 2 % (2 ^ 52 - 1) < 2 ^ 52 - 1 := Nat.mod_lt _ (by decide)
  generalize t % 2 = a at *
  generalize t / 2 % (2 ^ 52 - 1) = b at *
  constructor
  · unfold nanB rung
    refine decide_eq_true ?_
    omega
  · simp [Lit.wf]; omega
theorem run_invalid {P : Program} (op : BinOp) (hop : op = .add ∨ op = .sub ∨ op = .mul) (t : TypeId) (x y : Nat) (h : floatBits op .f64 x y = none) (w : World) :
    (binOp op t (.float .f64 x) (.float .f64 y)).run P w = .ok (.float .f64 (drawn x y w)) w.drew := by
  unfold floatBits at h
  rcases hop with rfl | rfl | rfl
  all_goals
    simp only at h
    simp [binOp, Op.floatArith, h, Question.forced, drawn]

def infOf (r : Int) : Prop := r = 9218868437227405312 ∨ r = -9218868437227405312
instance (r : Int) : Decidable (infOf r) := inferInstanceAs (Decidable (_ ∨ _))
def loOf (x o : Int) : Int := tenOf (Rnd (SV x - SV o))
def hiOf (x o : Int) : Int := tenOf (Rnd (SV x + SV o))
def betR (x o : Int) : Int × Int × Int :=
  if infOf x ∨ infOf o then (0, 0, 7) else if nearR (loOf x o) ∧ nearR (hiOf x o) then (downOf (loOf x o), upOf (hiOf x o), 0) else (0, 0, 7)
def betF (x o : Nat) : Int × Int × Int := if nanB x = true ∨ nanB o = true ∨ sr o < 0 then (0, 0, 40) else betR (sr x) (sr o)
def triple (x : Int × Int × Int) : Value := .tuple #[.int .i64 x.1, .int .i64 x.2.1, .int .i64 x.2.2]

theorem fin_of {x : Nat} (h : Num x) (hi : ¬ infOf (sr x)) : Fl.Fin x := by
  unfold infOf at hi
  have := h.bound
  exact fin_of_sr h (by omega) (by omega)
theorem rung_inf {x : Nat} (h : infOf (sr x)) : rung x = 9218868437227405312 := by
  have := sr_abs x
  unfold infOf at h
  omega
theorem far_inf {x : Nat} (h : Num x) (hi : infOf (sr x)) : farB x = true := by
  unfold farB
  rw [decide_eq_true (by unfold nearR infOf at *; omega), Bool.or_true]
theorem ten_inf {r : Int} (h : infOf r) : tenOf r = r := by
  rcases h with rfl | rfl
  · exact tenOf_inf false
  · exact tenOf_inf true
theorem inf_bounds (s : Int) (h : s = 9218868437227405312 ∨ s = -9218868437227405312) : infOf s := h

/-- What comes of an operation with an infinity: an infinity, or a NaN that is drawn. -/
theorem run_far {P : Program} (op : BinOp) (hop : op = .add ∨ op = .sub) (t : TypeId) {x y : Nat} (hx : Num x) (hy : Num y) (h : infOf (sr x) ∨ infOf (sr y)) :
    (∃ z, (∀ w, (binOp op t (.float .f64 x) (.float .f64 y)).run P w = .ok (.float .f64 z) w) ∧ Num z ∧ infOf (sr z)) ∨ (∀ w, (binOp op t (.float .f64 x) (.float .f64 y)).run P w = .ok (.float .f64 (drawn x y w)) w.drew) := by
  have hr := h.imp rung_inf rung_inf
  rcases hop with rfl | rfl
  · rcases add_inf hx hy hr with ⟨z, h1, h2, h3⟩ | h1
    · exact .inl ⟨z, fun w => run_float_arith w .add t .f64 x y z h1, h2, h3⟩
    · exact .inr (fun w => run_invalid .add (.inl rfl) t x y h1 w)
  · rcases sub_inf hx hy hr with ⟨z, h1, h2, h3⟩ | h1
    · exact .inl ⟨z, fun w => run_float_arith w .sub t .f64 x y z h1, h2, h3⟩
    · exact .inr (fun w => run_invalid .sub (.inr (.inl rfl)) t x y h1 w)
theorem run_ten_inf {P : Program} (t : TypeId) {x : Nat} (hx : Num x) (h : infOf (sr x)) :
    ∃ z, (∀ w, (binOp .mul t (.float .f64 x) (.float .f64 4621819117588971520)).run P w = .ok (.float .f64 z) w) ∧ Num z ∧ infOf (sr z) := by
  obtain ⟨z, h1, h2, h3⟩ := mul10_num hx
  exact ⟨z, fun w => run_float_arith w .mul t .f64 _ _ z h1, h2, by rw [h3, ten_inf h]; exact h⟩
theorem run_ten_nan {P : Program} (t : TypeId) {x : Nat} (h : nanB x = true) (w : World) :
    (binOp .mul t (.float .f64 x) (.float .f64 4621819117588971520)).run P w = .ok (.float .f64 (drawn x 4621819117588971520 w)) w.drew := by
  refine run_invalid .mul (.inr (.inr rfl)) t _ _ ?_ w
  show double.mul _ _ = none
  unfold Ieee.Format.mul
  obtain ⟨f, e⟩ := read_nan x (of_decide_eq_true h)
  rw [e]
  rfl

theorem below_drew {B : Nat} {a w : World} (h : Below B a w) : Below B a w.drew := ⟨h.os, h.tape, h.output, h.size, h.block⟩
theorem far_nan {x : Nat} (h : nanB x = true) : farB x = true := by rw [farB, h, Bool.true_or]
theorem rfar_drawn (x y : Nat) (w0 w : World) : Calls Try.prog 30 #[.float .f64 (drawn x y w0)] w fun e w' => e = .returned (.bool true) ∧ w = w' := by
  have h := rfar_any _ (drawn_nan x y w0).2 w
  rwa [far_nan (drawn_nan x y w0).1] at h
theorem rfar_inf {z : Nat} (hz : Num z) (hi : infOf (sr z)) (w : World) : Calls Try.prog 30 #[.float .f64 z] w fun e w' => e = .returned (.bool true) ∧ w = w' := by
  have h := rfar_any _ hz.wf w
  rwa [far_inf hz hi] at h

set_option maxHeartbeats 2000000 in
theorem rbet_inf (x o : Nat) (hx : Num x) (ho : Num o) (h0 : 0 ≤ sr o) (h : infOf (sr x) ∨ infOf (sr o)) (w : World) :
    Calls Try.prog 14 #[.float .f64 x, .float .f64 o] w fun e w' => e = .returned (triple (0, 0, 7)) ∧ Below w.heap.size w w' := by
  have c1 := rnone_any x hx.wf
  have c2 := rnone_any o ho.wf
  rw [nanB_num hx] at c1
  rw [nanB_num ho] at c2
  have h1 := lt_num ho num_zero
  rw [sr_zero, decide_eq_false (by omega)] at h1
  have C1 := Lib.hid c1; have C2 := Lib.hid c2; clear c1 c2
  have HD := Lib.hid (fun x y w0 w => rfar_drawn x y w0 w)
  rcases run_far (P := Try.prog) .sub (.inr rfl) 22 hx ho h with ⟨p, hp, np, ip⟩ | hp
  · obtain ⟨p2, hp2, np2, ip2⟩ := run_ten_inf (P := Try.prog) 22 np ip
    have HP := Lib.hid (fun w => rfar_inf np2 ip2 w)
    clear np ip np2 ip2
    rcases run_far (P := Try.prog) .add (.inl rfl) 22 hx ho h with ⟨q, hq, nq, iq⟩ | hq
    · obtain ⟨q2, hq2, nq2, iq2⟩ := run_ten_inf (P := Try.prog) 22 nq iq
      have HQ := Lib.hid (fun w => rfar_inf nq2 iq2 w)
      clear h hx ho h0 nq iq nq2 iq2
      go_enter Try.func14, Try.ntmps14
      go_wp2_with fail
      refine (C1.out _).mono ?_
      rintro e w' ⟨rfl, rfl⟩
      go_wp2_with fail
      refine (C2.out _).mono ?_
      rintro e w' ⟨rfl, rfl⟩
      go_wp2_with fail
      refine (HP.out _).mono ?_
      rintro e w' ⟨rfl, rfl⟩
      go_wp2_with fail
      refine (HQ.out _).mono ?_
      rintro e w' ⟨rfl, rfl⟩
      go_wp2
      go_ret3
      exact ⟨rfl, Below.refl _ _⟩
    · have hq2 := fun w' => run_ten_nan (P := Try.prog) 22 (drawn_nan x o w').1
      clear h hx ho h0
      go_enter Try.func14, Try.ntmps14
      go_wp2_with fail
      refine (C1.out _).mono ?_
      rintro e w' ⟨rfl, rfl⟩
      go_wp2_with fail
      refine (C2.out _).mono ?_
      rintro e w' ⟨rfl, rfl⟩
      go_wp2_with fail
      refine (HP.out _).mono ?_
      rintro e w' ⟨rfl, rfl⟩
      go_wp2_with fail
      refine (HD.out _ _ _ _).mono ?_
      rintro e w' ⟨rfl, rfl⟩
      go_wp2
      go_ret3
      exact ⟨rfl, below_drew (below_drew (Below.refl _ _))⟩
  · have hp2 := fun w' => run_ten_nan (P := Try.prog) 22 (drawn_nan x o w').1
    rcases run_far (P := Try.prog) .add (.inl rfl) 22 hx ho h with ⟨q, hq, nq, iq⟩ | hq
    · obtain ⟨q2, hq2, nq2, iq2⟩ := run_ten_inf (P := Try.prog) 22 nq iq
      have HQ := Lib.hid (fun w => rfar_inf nq2 iq2 w)
      clear h hx ho h0 nq iq nq2 iq2
      go_enter Try.func14, Try.ntmps14
      go_wp2_with fail
      refine (C1.out _).mono ?_
      rintro e w' ⟨rfl, rfl⟩
      go_wp2_with fail
      refine (C2.out _).mono ?_
      rintro e w' ⟨rfl, rfl⟩
      go_wp2_with fail
      refine (HD.out _ _ _ _).mono ?_
      rintro e w' ⟨rfl, rfl⟩
      go_wp2_with fail
      refine (HQ.out _).mono ?_
      rintro e w' ⟨rfl, rfl⟩
      go_wp2
      go_ret3
      exact ⟨rfl, below_drew (below_drew (Below.refl _ _))⟩
    · clear h hx ho h0
      go_enter Try.func14, Try.ntmps14
      go_wp2_with fail
      refine (C1.out _).mono ?_
      rintro e w' ⟨rfl, rfl⟩
      go_wp2_with fail
      refine (C2.out _).mono ?_
      rintro e w' ⟨rfl, rfl⟩
      go_wp2_with fail
      refine (HD.out _ _ _ _).mono ?_
      rintro e w' ⟨rfl, rfl⟩
      go_wp2_with fail
      refine (HD.out _ _ _ _).mono ?_
      rintro e w' ⟨rfl, rfl⟩
      go_wp2
      go_ret3
      exact ⟨rfl, below_drew (below_drew (below_drew (below_drew (Below.refl _ _))))⟩

set_option maxHeartbeats 2000000 in
theorem rbet_fin (x o : Nat) (hx : Num x) (ho : Num o) (h0 : 0 ≤ sr o) (h : ¬ (infOf (sr x) ∨ infOf (sr o))) (w : World) :
    Calls Try.prog 14 #[.float .f64 x, .float .f64 o] w fun e w' => e = .returned (triple (betR (sr x) (sr o))) ∧ w = w' := by
  have c1 := rnone_any x hx.wf
  have c2 := rnone_any o ho.wf
  rw [nanB_num hx] at c1
  rw [nanB_num ho] at c2
  have h1 := lt_num ho num_zero
  rw [sr_zero, decide_eq_false (by omega)] at h1
  have C1 := Lib.hid c1; have C2 := Lib.hid c2; clear c1 c2
  have fx := fin_of hx (fun k => h (.inl k))
  have fo := fin_of ho (fun k => h (.inr k))
  obtain ⟨p, p1, p2, p3⟩ := sub_fin fx fo
  obtain ⟨q, q1, q2, q3⟩ := add_fin fx fo
  obtain ⟨a, a1, a2, a3⟩ := mul10_num p2
  obtain ⟨b, b1, b2, b3⟩ := mul10_num q2
  have e1 : ∀ w, (binOp .sub 22 (.float .f64 x) (.float .f64 o)).run Try.prog w = .ok (.float .f64 p) w := fun w => run_float_arith w .sub _ .f64 _ _ _ p1
  have e2 : ∀ w, (binOp .add 22 (.float .f64 x) (.float .f64 o)).run Try.prog w = .ok (.float .f64 q) w := fun w => run_float_arith w .add _ .f64 _ _ _ q1
  have e3 : ∀ w, (binOp .mul 22 (.float .f64 p) (.float .f64 4621819117588971520)).run Try.prog w = .ok (.float .f64 a) w := fun w => run_float_arith w .mul _ .f64 _ _ _ a1
  have e4 : ∀ w, (binOp .mul 22 (.float .f64 q) (.float .f64 4621819117588971520)).run Try.prog w = .ok (.float .f64 b) w := fun w => run_float_arith w .mul _ .f64 _ _ _ b1
  rw [p3] at a3
  rw [q3] at b3
  rw [betR, if_neg h, loOf, hiOf, ← a3, ← b3]
  have HA := Lib.hid (fun w => rfar_any a a2.wf w)
  have HB := Lib.hid (fun w => rfar_any b b2.wf w)
  rw [farB, nanB_num a2, Bool.false_or] at HA
  rw [farB, nanB_num b2, Bool.false_or] at HB
  have HC := Lib.hid (fun hh w => rdown_any a a2 hh w)
  have HE := Lib.hid (fun hh w => rup_any b b2 hh w)
  clear h hx ho h0 fx fo p1 p2 p3 q1 q2 q3 a1 a2 a3 b1 b2 b3
  by_cases ha : nearR (sr a)
  · rw [decide_eq_false (fun k => k ha)] at HA
    have HC2 := Lib.hid (HC.out ha)
    by_cases hb : nearR (sr b)
    · rw [if_pos ⟨ha, hb⟩]
      rw [decide_eq_false (fun k => k hb)] at HB
      have HE2 := Lib.hid (HE.out hb)
      generalize downOf (sr a) = d at *
      generalize upOf (sr b) = u at *
      clear ha hb
      go_enter Try.func14, Try.ntmps14
      go_wp2_with fail
      refine (C1.out _).mono ?_
      rintro e w' ⟨rfl, rfl⟩
      go_wp2_with fail
      refine (C2.out _).mono ?_
      rintro e w' ⟨rfl, rfl⟩
      go_wp2_with fail
      refine (HA.out _).mono ?_
      rintro e w' ⟨rfl, rfl⟩
      go_wp2_with fail
      refine (HB.out _).mono ?_
      rintro e w' ⟨rfl, rfl⟩
      go_wp2_with fail
      refine (HC2.out _).mono ?_
      rintro e w' ⟨rfl, rfl⟩
      go_wp2_with fail
      refine (HE2.out _).mono ?_
      rintro e w' ⟨rfl, rfl⟩
      go_wp2
      go_ret3
      exact ⟨rfl, rfl⟩
    · rw [if_neg (fun k => hb k.2)]
      rw [decide_eq_true hb] at HB
      clear ha hb
      go_enter Try.func14, Try.ntmps14
      go_wp2_with fail
      refine (C1.out _).mono ?_
      rintro e w' ⟨rfl, rfl⟩
      go_wp2_with fail
      refine (C2.out _).mono ?_
      rintro e w' ⟨rfl, rfl⟩
      go_wp2_with fail
      refine (HA.out _).mono ?_
      rintro e w' ⟨rfl, rfl⟩
      go_wp2_with fail
      refine (HB.out _).mono ?_
      rintro e w' ⟨rfl, rfl⟩
      go_wp2
      go_ret3
      exact ⟨rfl, rfl⟩
  · rw [if_neg (fun k => ha k.1)]
    rw [decide_eq_true ha] at HA
    generalize decide (¬ nearR (sr b)) = v at *
    clear ha
    go_enter Try.func14, Try.ntmps14
    go_wp2_with fail
    refine (C1.out _).mono ?_
    rintro e w' ⟨rfl, rfl⟩
    go_wp2_with fail
    refine (C2.out _).mono ?_
    rintro e w' ⟨rfl, rfl⟩
    go_wp2_with fail
    refine (HA.out _).mono ?_
    rintro e w' ⟨rfl, rfl⟩
    go_wp2_with fail
    refine (HB.out _).mono ?_
    rintro e w' ⟨rfl, rfl⟩
    go_wp2
    go_ret3
    exact ⟨rfl, rfl⟩

set_option maxHeartbeats 2000000 in
theorem rbet_any (x o : Nat) (wx : (Lit.float .f64 x).wf = true) (wo : (Lit.float .f64 o).wf = true) (w : World) :
    Calls Try.prog 14 #[.float .f64 x, .float .f64 o] w fun e w' => e = .returned (triple (betF x o)) ∧ Below w.heap.size w w' := by
  have c1 := rnone_any x wx
  have c2 := rnone_any o wo
  cases hx : nanB x
  · have nx := num_of wx hx
    cases ho : nanB o
    · have no := num_of wo ho
      by_cases h0 : sr o < 0
      · rw [betF, if_pos (.inr (.inr h0))]
        have h1 := lt_num no num_zero
        rw [sr_zero, decide_eq_true h0] at h1
        rw [hx] at c1
        rw [ho] at c2
        have C1 := Lib.hid c1; have C2 := Lib.hid c2; clear c1 c2 hx ho nx no wx wo h0
        go_enter Try.func14, Try.ntmps14
        go_wp2_with fail
        refine (C1.out _).mono ?_
        rintro e w' ⟨rfl, rfl⟩
        go_wp2_with fail
        refine (C2.out _).mono ?_
        rintro e w' ⟨rfl, rfl⟩
        go_wp2
        go_ret3
        exact ⟨rfl, Below.refl _ _⟩
      · rw [betF, if_neg (by rw [hx, ho]; simp; omega)]
        by_cases hi : infOf (sr x) ∨ infOf (sr o)
        · rw [betR, if_pos hi]
          exact rbet_inf x o nx no (by omega) hi w
        · refine (rbet_fin x o nx no (by omega) hi w).mono ?_
          rintro e w' ⟨rfl, rfl⟩
          exact ⟨rfl, Below.refl _ _⟩
    · rw [betF, if_pos (.inr (.inl ho))]
      rw [hx] at c1
      rw [ho] at c2
      have C1 := Lib.hid c1; have C2 := Lib.hid c2; clear c1 c2 hx ho nx wx wo
      go_enter Try.func14, Try.ntmps14
      go_wp2_with fail
      refine (C1.out _).mono ?_
      rintro e w' ⟨rfl, rfl⟩
      go_wp2_with fail
      refine (C2.out _).mono ?_
      rintro e w' ⟨rfl, rfl⟩
      go_wp2
      go_ret3
      exact ⟨rfl, Below.refl _ _⟩
  · rw [betF, if_pos (.inl hx)]
    rw [hx] at c1
    have C1 := Lib.hid c1; have C2 := Lib.hid c2; clear c1 c2 hx wx wo
    go_enter Try.func14, Try.ntmps14
    go_wp2_with fail
    refine (C1.out _).mono ?_
    rintro e w' ⟨rfl, rfl⟩
    go_wp2_with fail
    refine (C2.out _).mono ?_
    rintro e w' ⟨rfl, rfl⟩
    go_wp2
    go_ret3
    exact ⟨rfl, Below.refl _ _⟩

end Go.Proofs.Ytidokfbjfdkfdaa
