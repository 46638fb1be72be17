/-
  linesideref04.Middle: the middle one of the numbers.
-/
import Derived.Test.YtidokfbjfdkfdaaOdoSort
namespace Go.Proofs.Ytidokfbjfdkfdaa
open Go.RowKit Fl
attribute [local irreducible] N E mval top U

def someOf (l : List Nat) : List Nat := l.filter fun x => !nanB x
theorem some_step (l : List Nat) (j : Nat) (h : j < l.length) : someOf (l.take (j + 1)) = if nanB (l.getD j 0) = true then someOf (l.take j) else someOf (l.take j) ++ [l.getD j 0] := by
  have e : l.getD j 0 = l[j] := by simp [List.getD_eq_getElem?_getD, List.getElem?_eq_getElem h]
  rw [List.take_succ_eq_append_getElem h, someOf, List.filter_append, ← e]
  cases hn : nanB (l.getD j 0)
  · rw [if_neg (by decide), List.filter_cons_of_pos (by show (!nanB (l.getD j 0)) = true; rw [hn]; rfl)]; rfl
  · rw [if_pos rfl, List.filter_cons_of_neg (by show ¬ (!nanB (l.getD j 0)) = true; rw [hn]; decide)]; simp [someOf]
theorem some_le (l : List Nat) (j : Nat) : (someOf (l.take j)).length ≤ j := by
  refine Nat.le_trans (List.length_filter_le _ _) ?_
  rw [List.length_take]; omega
theorem some_wf {l : List Nat} (h : ∀ z ∈ l, (Lit.float .f64 z).wf = true) : ∀ z ∈ someOf l, (Lit.float .f64 z).wf = true := fun z hz => h z (List.mem_filter.1 hz).1
def middleOf (l : List Nat) : Nat × Bool := if (someOf l).length = 0 then (0, false) else ((sortOf (someOf l)).getD (((someOf l).length - 1) / 2) 0, true)
def midV (x : Nat × Bool) : Value := .tuple #[.float .f64 x.1, .bool x.2]

theorem mid_facts (m i : Nat) (h0 : 0 < m) (hi : (m - 1) / 2 = i) : Int.tdiv ((m : Int) - 1) 2 = i := by
  rw [Int.tdiv_eq_ediv_of_nonneg (by omega)]; omega

set_option maxRecDepth 100000 in
set_option maxHeartbeats 4000000 in
theorem rmid_any (A : Option Addr) (n c : Nat) (l : List Nat) (w : World) (hl : SlF w A n c l) (hn : n ≤ 65536) :
    Calls Try.prog 25 #[.slice A n c] w fun e w' => e = .returned (midV (middleOf l)) ∧ Below w.heap.size w w' := by
  have hll := hl.len
  have HL := Lib.hid hl; clear hl
  obtain ⟨M, hM⟩ : ∃ M, middleOf l = M := ⟨_, rfl⟩
  rw [hM]
  have HM := Lib.hid hM; clear hM
  have HO0 : Hid (OwF w.heap.size w none 0 0 []) := Lib.hid (World.ownsRow_nil w w.heap.size 22 1)
  go_enter Try.func25, Try.ntmps25
  go_wp2
  go_loopg [4, 5] n (fun kk v i wl => ∃ (j : Nat) (A2 : Option Addr) (c2 : Nat), j ≤ n ∧ n - j ≤ kk ∧ i = .int .i64 j ∧ v = .slice A2 (someOf (l.take j)).length c2 ∧ OwF w.heap.size wl A2 (someOf (l.take j)).length c2 (someOf (l.take j)) ∧ Below w.heap.size w wl)
  case atStart => exact ⟨0, none, 0, by omega, by omega, rfl, rfl, HO0.out, Below.refl _ _⟩
  case round =>
    obtain ⟨j, A2, c2, hj, hjk, rfl, rfl, ho, hb⟩ := hrel
    have HO := Lib.hid ho; have HB := Lib.hid hb; clear ho hb
    by_cases hlt : j < n
    · have HLr := Lib.hid (HL.out.under HB.out)
      obtain ⟨b, off, rfl, hc⟩ := HLr.out.at_ hlt
      have hw := HL.out.wf_at hlt
      have hstep := some_step l j (by omega)
      have hle := some_le l j
      generalize l.getD j 0 = x at *
      obtain ⟨K, hK⟩ : ∃ K, someOf (l.take j) = K := ⟨_, rfl⟩
      rw [hK] at hstep HO hle ⊢
      have HS := Lib.hid hstep; clear hstep hK
      have x1 : (j : Int) < n := by omega
      have x0 : (0 : Int) ≤ j := by omega
      have c1 := rnone_any x hw wr
      cases hnx : nanB x
      · rw [hnx] at c1
        rw [hnx, if_neg (by decide)] at HS
        have C1 := Lib.hid c1; clear c1
        obtain ⟨hN, hO3, hC, h1c, hBD, hB3⟩ := push_facts x HO.out HB.out HB.out.size (by omega)
        go_wp2_with fail
        refine C1.out.mono ?_
        rintro e w' ⟨rfl, rfl⟩
        go_wp2_with (with_reducible refine wpList_push (o := ⟨some 26, _, _, _, _, _⟩) rfl (.tmp 20) (.tmp 25) 31 rfl w.heap.size 22 (.float .f64 0) 1 8 Try.underlying31 info_f64 ?hz (by decide) A2 K.length c2 (flts K) ?hs hO3 ⟨wr.heap.size, 0, none⟩ 1 1 [.float .f64 x] ?hx hN hC h1c hBD ?next)
        case hz => rfl
        case hs => rfl
        case hx => rfl
        case next =>
          intro A4 c4 w4 ho4 hg4
          go_wp2
          go_roundg (gk - 1)
          case measure => omega
          case rel =>
            refine ⟨j + 1, A4, c4, by omega, by omega, by go_num, by rw [HS.out]; simp, ?_, below_own hB3.out hBD.out.2.2 hO3.out (Nat.le_refl _) rfl hg4.out⟩
            rw [HS.out]
            have := ho4.out
            simpa [OwF, flts] using this
      · rw [hnx] at c1
        rw [hnx, if_pos rfl] at HS
        have C1 := Lib.hid c1; clear c1
        go_wp2_with fail
        refine C1.out.mono ?_
        rintro e w' ⟨rfl, rfl⟩
        go_wp2
        go_roundg (gk - 1)
        case measure => omega
        case rel => exact ⟨j + 1, A2, c2, by omega, by omega, by go_num, by rw [HS.out], by rw [HS.out]; exact HO.out, HB.out⟩
    · obtain rfl : j = n := by omega
      have e : l.take j = l := by rw [← hll, List.take_length]
      have hle := some_le l j
      rw [e] at HO hle ⊢
      have hwf := some_wf HL.out.wf
      have hM := HM.out
      clear HM
      unfold middleOf at hM
      generalize someOf l = K at *
      obtain ⟨m, hm⟩ : ∃ m, K.length = m := ⟨_, rfl⟩
      rw [hm] at HO hle hM ⊢
      by_cases h0 : m = 0
      · rw [if_pos h0] at hM
        subst hM
        have h1 : ((m : Int) == 0) = true := by rw [h0]; rfl
        go_wp2
        go_ret2
        exact ⟨rfl, HB.out⟩
      · rw [if_neg h0] at hM
        have h1 : ((m : Int) == 0) = false := by rw [beq_eq_false_iff_ne]; omega
        have HSR := Lib.hid (rsort_any A2 m c2 K wr ⟨hm, hwf, own_sl HO.out⟩ (by omega))
        have hsl := sort_length K
        have hswf := sort_wf hwf
        rw [hm] at hsl
        generalize sortOf K = S at *
        have HW := Lib.hid hwf; have HSW := Lib.hid hswf; clear hwf hswf
        go_wp2_with fail
        refine HSR.out.mono ?_
        rintro e w5 ⟨A5, c5, rfl, ho5, hb5⟩
        have HB5 := Lib.hid (HB.out.trans (hb5.mono HB.out.size))
        have hs5 : SlF w5 A5 m c5 S := ⟨hsl, HSW.out, own_sl ho5⟩
        have hlt : (m - 1) / 2 < m := by omega
        obtain ⟨b, off, rfl, hc⟩ := hs5.at_ hlt
        generalize S.getD ((m - 1) / 2) 0 = y at *
        subst hM
        have HS5 := Lib.hid hs5; clear hs5 ho5 hb5
        obtain ⟨i, hi⟩ : ∃ i, (m - 1) / 2 = i := ⟨_, rfl⟩
        rw [hi] at hc hlt
        have i0 : (0 : Int) ≤ i := by omega
        have i1 : (i : Int) < m := by omega
        have w2 := mid_facts m i (by omega) hi
        have i2 : (m : Int) ≤ 65536 := by omega
        have i3 : (1 : Int) ≤ m := by omega
        clear hi
        go_wp2
        go_ret2
        exact ⟨rfl, HB5.out⟩

end Go.Proofs.Ytidokfbjfdkfdaa
