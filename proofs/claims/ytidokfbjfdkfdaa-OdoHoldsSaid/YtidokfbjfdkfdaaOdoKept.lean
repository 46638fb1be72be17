/-
  odo as landed: the two function values and kept, once for each.
-/
import Derived.Test.YtidokfbjfdkfdaaOdoReal
import Derived.Test.YtidokfbjfdkfdaaOdoMid
namespace Go.Proofs.Ytidokfbjfdkfdaa
open Go.RowKit Fl
attribute [local irreducible] N E mval top U

theorem fin_inf {x : Nat} (h : Num x) : decide (9218868437227405311 < rung x) = decide (infOf (sr x)) := by
  have h1 := h.bound
  have h2 := sr_abs x
  have h3 := h.2
  rw [decide_eq_decide]; unfold infOf; omega

set_option maxHeartbeats 1000000 in
theorem ofin_any (x : Nat) (hw : (Lit.float .f64 x).wf = true) (w : World) :
    Calls Try.prog 39 #[.float .f64 x] w fun e w' => e = .returned (.bool (finB x)) ∧ w = w' := by
  have c1 := isnan_any x hw w
  unfold finB
  cases h : nanB x
  · have hx := num_of hw h
    have c2 := isinf_any x hx w
    rw [fin_inf hx] at c2
    rw [h] at c1
    rw [decide_not]
    generalize decide (infOf (sr x)) = b at *
    have C1 := Lib.hid c1; have C2 := Lib.hid c2; clear c1 c2 hx hw h
    go_enter Try.func39, Try.ntmps39
    go_wp2_with fail
    refine C1.out.mono ?_
    rintro e w' ⟨rfl, rfl⟩
    go_wp2_with fail
    refine C2.out.mono ?_
    rintro e w' ⟨rfl, rfl⟩
    go_wp2
    go_ret
    exact ⟨rfl, rfl⟩
  · rw [h] at c1
    have C1 := Lib.hid c1; clear c1 hw h
    go_enter Try.func39, Try.ntmps39
    go_wp2_with fail
    refine C1.out.mono ?_
    rintro e w' ⟨rfl, rfl⟩
    go_wp2
    go_ret
    exact ⟨rfl, rfl⟩

def notB (x : Nat) : Bool := !nanB x
theorem onot_any (x : Nat) (hw : (Lit.float .f64 x).wf = true) (w : World) :
    Calls Try.prog 41 #[.float .f64 x] w fun e w' => e = .returned (.bool (notB x)) ∧ w = w' := by
  have C1 := Lib.hid (isnan_any x hw w)
  unfold notB
  go_enter Try.func41, Try.ntmps41
  go_wp2_with fail
  refine C1.out.mono ?_
  rintro e w' ⟨rfl, rfl⟩
  go_wp2
  go_ret
  exact ⟨rfl, rfl⟩

theorem filter_step (p : Nat → Bool) (l : List Nat) (j : Nat) (h : j < l.length) : (l.take (j + 1)).filter p = if p (l.getD j 0) = true then (l.take j).filter p ++ [l.getD j 0] else (l.take j).filter p := by
  have e : l.getD j 0 = l[j] := by simp [List.getD_eq_getElem?_getD, List.getElem?_eq_getElem h]
  rw [List.take_succ_eq_append_getElem h, List.filter_append, ← e]
  by_cases hf : p (l.getD j 0) = true
  · rw [if_pos hf, List.filter_cons_of_pos hf]; rfl
  · rw [if_neg hf, List.filter_cons_of_neg hf]; simp
theorem filter_le (p : Nat → Bool) (l : List Nat) (j : Nat) : ((l.take j).filter p).length ≤ j := by
  refine Nat.le_trans (List.length_filter_le _ _) ?_
  rw [List.length_take]; omega

set_option maxRecDepth 100000 in
set_option maxHeartbeats 4000000 in
theorem okept_fin (A : Option Addr) (n c : Nat) (l : List Nat) (w : World) (hl : SlF w A n c l) (hn : n ≤ 65536) :
    Calls Try.prog 38 #[.slice A n c, .func (.func 39) #[] #[]] w fun e w' => ∃ A' c', e = .returned (.slice A' (l.filter finB).length c') ∧ OwF w.heap.size w' A' (l.filter finB).length c' (l.filter finB) ∧ Below w.heap.size w w' := by
  have hll := hl.len
  have HL := Lib.hid hl; clear hl
  have HO0 : Hid (OwF w.heap.size w none 0 0 []) := Lib.hid (World.ownsRow_nil w w.heap.size 22 1)
  go_enter Try.func38, Try.ntmps38
  go_wp2
  go_loopg [5, 10] n (fun kk v i wl => ∃ (j : Nat) (A2 : Option Addr) (c2 : Nat), j ≤ n ∧ n - j ≤ kk ∧ i = .int .i64 j ∧ v = .slice A2 ((l.take j).filter finB).length c2 ∧ OwF w.heap.size wl A2 ((l.take j).filter finB).length c2 ((l.take j).filter finB) ∧ Below w.heap.size w wl)
  case atStart => exact ⟨0, none, 0, by omega, by omega, rfl, rfl, HO0.out, Below.refl _ _⟩
  case round =>
    obtain ⟨j, A2, c2, hj, hjk, rfl, rfl, ho, hb⟩ := hrel
    have HO := Lib.hid ho; have HB := Lib.hid hb; clear ho hb
    by_cases hlt : j < n
    · have HLr := Lib.hid (HL.out.under HB.out)
      obtain ⟨b, off, rfl, hc⟩ := HLr.out.at_ hlt
      have hw := HL.out.wf_at hlt
      have hstep := filter_step finB l j (by omega)
      have hle := filter_le finB l j
      generalize l.getD j 0 = x at *
      obtain ⟨K, hK⟩ : ∃ K, (l.take j).filter finB = K := ⟨_, rfl⟩
      rw [hK] at hstep HO hle ⊢
      have HS := Lib.hid hstep; clear hstep hK
      have x1 : (j : Int) < n := by omega
      have x0 : (0 : Int) ≤ j := by omega
      have c1 := ofin_any x hw wr
      have C1 := Lib.hid c1; clear c1
      obtain ⟨hN, hO3, hC, h1c, hBD, hB3⟩ := push_facts x HO.out HB.out HB.out.size (by omega)
      cases hf : finB x
      · rw [hf] at C1 HS
        rw [if_neg (by decide)] at HS
        clear hf hw
        go_wp2_with fail
        refine C1.out.mono ?_
        rintro e w' ⟨rfl, rfl⟩
        go_wp2
        go_roundg (gk - 1)
        case measure => omega
        case rel =>
          exact ⟨j + 1, A2, c2, by omega, by omega, by go_num, by rw [HS.out], by rw [HS.out]; exact HO.out, HB.out⟩
      · rw [hf] at C1 HS
        rw [if_pos rfl] at HS
        clear hf hw
        go_wp2_with fail
        refine C1.out.mono ?_
        rintro e w' ⟨rfl, rfl⟩
        go_wp2_with (with_reducible refine wpList_push (o := ⟨some 20, _, _, _, _, _⟩) rfl (.tmp 17) (.tmp 19) 31 rfl w.heap.size 22 (.float .f64 0) 1 8 Try.underlying31 info_f64 ?hz (by decide) A2 K.length c2 (flts K) ?hs hO3 ⟨wr.heap.size, 0, none⟩ 1 1 [.float .f64 x] ?hx hN hC h1c hBD ?next)
        case hz => rfl
        case hs => rfl
        case hx => rfl
        case next =>
          intro A4 c4 w4 ho4 hg4
          go_wp2
          go_roundg (gk - 1)
          case measure => omega
          case rel =>
            refine ⟨j + 1, A4, c4, by omega, by omega, by go_num, by rw [HS.out]; simp, ?_, below_own hB3.out hBD.out.2.2 hO3.out (Nat.le_refl _) rfl hg4.out⟩
            rw [HS.out]
            have := ho4.out
            simpa [OwF, flts] using this
    · obtain rfl : j = n := by omega
      have e : l.take j = l := by rw [← hll, List.take_length]
      rw [e] at HO ⊢
      go_wp2
      go_ret
      exact ⟨A2, c2, rfl, HO.out, HB.out⟩

set_option maxRecDepth 100000 in
set_option maxHeartbeats 4000000 in
theorem okept_not (A : Option Addr) (n c : Nat) (l : List Nat) (w : World) (hl : SlF w A n c l) (hn : n ≤ 65536) :
    Calls Try.prog 38 #[.slice A n c, .func (.func 41) #[] #[]] w fun e w' => ∃ A' c', e = .returned (.slice A' (l.filter notB).length c') ∧ OwF w.heap.size w' A' (l.filter notB).length c' (l.filter notB) ∧ Below w.heap.size w w' := by
  have hll := hl.len
  have HL := Lib.hid hl; clear hl
  have HO0 : Hid (OwF w.heap.size w none 0 0 []) := Lib.hid (World.ownsRow_nil w w.heap.size 22 1)
  go_enter Try.func38, Try.ntmps38
  go_wp2
  go_loopg [5, 10] n (fun kk v i wl => ∃ (j : Nat) (A2 : Option Addr) (c2 : Nat), j ≤ n ∧ n - j ≤ kk ∧ i = .int .i64 j ∧ v = .slice A2 ((l.take j).filter notB).length c2 ∧ OwF w.heap.size wl A2 ((l.take j).filter notB).length c2 ((l.take j).filter notB) ∧ Below w.heap.size w wl)
  case atStart => exact ⟨0, none, 0, by omega, by omega, rfl, rfl, HO0.out, Below.refl _ _⟩
  case round =>
    obtain ⟨j, A2, c2, hj, hjk, rfl, rfl, ho, hb⟩ := hrel
    have HO := Lib.hid ho; have HB := Lib.hid hb; clear ho hb
    by_cases hlt : j < n
    · have HLr := Lib.hid (HL.out.under HB.out)
      obtain ⟨b, off, rfl, hc⟩ := HLr.out.at_ hlt
      have hw := HL.out.wf_at hlt
      have hstep := filter_step notB l j (by omega)
      have hle := filter_le notB l j
      generalize l.getD j 0 = x at *
      obtain ⟨K, hK⟩ : ∃ K, (l.take j).filter notB = K := ⟨_, rfl⟩
      rw [hK] at hstep HO hle ⊢
      have HS := Lib.hid hstep; clear hstep hK
      have x1 : (j : Int) < n := by omega
      have x0 : (0 : Int) ≤ j := by omega
      have c1 := onot_any x hw wr
      have C1 := Lib.hid c1; clear c1
      obtain ⟨hN, hO3, hC, h1c, hBD, hB3⟩ := push_facts x HO.out HB.out HB.out.size (by omega)
      cases hf : notB x
      · rw [hf] at C1 HS
        rw [if_neg (by decide)] at HS
        clear hf hw
        go_wp2_with fail
        refine C1.out.mono ?_
        rintro e w' ⟨rfl, rfl⟩
        go_wp2
        go_roundg (gk - 1)
        case measure => omega
        case rel =>
          exact ⟨j + 1, A2, c2, by omega, by omega, by go_num, by rw [HS.out], by rw [HS.out]; exact HO.out, HB.out⟩
      · rw [hf] at C1 HS
        rw [if_pos rfl] at HS
        clear hf hw
        go_wp2_with fail
        refine C1.out.mono ?_
        rintro e w' ⟨rfl, rfl⟩
        go_wp2_with (with_reducible refine wpList_push (o := ⟨some 20, _, _, _, _, _⟩) rfl (.tmp 17) (.tmp 19) 31 rfl w.heap.size 22 (.float .f64 0) 1 8 Try.underlying31 info_f64 ?hz (by decide) A2 K.length c2 (flts K) ?hs hO3 ⟨wr.heap.size, 0, none⟩ 1 1 [.float .f64 x] ?hx hN hC h1c hBD ?next)
        case hz => rfl
        case hs => rfl
        case hx => rfl
        case next =>
          intro A4 c4 w4 ho4 hg4
          go_wp2
          go_roundg (gk - 1)
          case measure => omega
          case rel =>
            refine ⟨j + 1, A4, c4, by omega, by omega, by go_num, by rw [HS.out]; simp, ?_, below_own hB3.out hBD.out.2.2 hO3.out (Nat.le_refl _) rfl hg4.out⟩
            rw [HS.out]
            have := ho4.out
            simpa [OwF, flts] using this
    · obtain rfl : j = n := by omega
      have e : l.take j = l := by rw [← hll, List.take_length]
      rw [e] at HO ⊢
      go_wp2
      go_ret
      exact ⟨A2, c2, rfl, HO.out, HB.out⟩

end Go.Proofs.Ytidokfbjfdkfdaa
