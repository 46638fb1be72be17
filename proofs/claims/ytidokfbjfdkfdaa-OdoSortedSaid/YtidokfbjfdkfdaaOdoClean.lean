/-
  linesideref04.Clean: the finite numbers, each -0 as 0.
-/
import Derived.Test.YtidokfbjfdkfdaaFlLists
import Derived.Maps.AppendAt
import Derived.OwnWalk
namespace Go.Proofs.Ytidokfbjfdkfdaa
open Go.RowKit Fl
attribute [local irreducible] N E mval top U

abbrev OwF (base : Nat) (w : World) (A : Option Addr) (m c : Nat) (l : List Nat) : Prop := w.ownsRow base 22 1 (.slice A m c) m (flts l)

/-- What an append of one double needs: its block laid beside. -/
theorem push_facts {base : Nat} {w0 w : World} {A : Option Addr} {m c : Nat} {l : List Nat} (x : Nat) (ho : OwF base w A m c l) (hb : Below base w0 w) (hbase : base ≤ w.heap.size) (hm : m ≤ 1048576) :
    Hid (([.float .f64 x] : List Value).length = 1 * 1) ∧ Hid ((w.alloc (.cells #[.float .f64 x] 22)).ownsRow base 22 1 (.slice A m c) m (flts l)) ∧
    Hid (∀ i u, ([.float .f64 x] : List Value)[i]? = some u → (w.alloc (.cells #[.float .f64 x] 22)).cell? ((⟨w.heap.size, 0, none⟩ : Addr).add i) = some u) ∧
    Hid (∀ u ∈ ([.float .f64 x] : List Value), u.oneCell' = true) ∧
    Hid (m + 1 ≤ maxLen ∧ (m + 1) * 8 ≤ 140737488355328 ∧ base ≤ (w.alloc (.cells #[.float .f64 x] 22)).heap.size) ∧
    Hid (Below base w0 (w.alloc (.cells #[.float .f64 x] 22))) := by
  refine ⟨Lib.hid rfl, Lib.hid (ho.alloc _), Lib.hid ?_, Lib.hid ?_, Lib.hid ⟨by unfold maxLen; omega, by omega, by simp; omega⟩, Lib.hid (hb.alloc hbase _)⟩
  · intro i u hu
    rw [WideShapes.add_plain, (Has.made w 22 #[.float .f64 x]).cell, Nat.zero_add]
    simpa using hu
  · intro u hu
    simp only [List.mem_singleton] at hu
    subst hu
    rfl

def finB (x : Nat) : Bool := !nanB x && decide (¬ infOf (sr x))
def plusB (x : Nat) : Nat := if sr x = 0 then 0 else x
def cleanOf (l : List Nat) : List Nat := (l.filter finB).map plusB
theorem clean_step (l : List Nat) (j : Nat) (h : j < l.length) : cleanOf (l.take (j + 1)) = if finB (l.getD j 0) = true then cleanOf (l.take j) ++ [plusB (l.getD j 0)] else cleanOf (l.take j) := by
  have e : l.getD j 0 = l[j] := by simp [List.getD_eq_getElem?_getD, List.getElem?_eq_getElem h]
  rw [List.take_succ_eq_append_getElem h, cleanOf, List.filter_append, List.map_append, ← e]
  by_cases hf : finB (l.getD j 0) = true
  · rw [if_pos hf, List.filter_cons_of_pos hf]; rfl
  · rw [if_neg hf, List.filter_cons_of_neg hf]; simp [cleanOf]
theorem clean_le (l : List Nat) (j : Nat) : (cleanOf (l.take j)).length ≤ j := by
  rw [cleanOf, List.length_map]
  refine Nat.le_trans (List.length_filter_le _ _) ?_
  rw [List.length_take]; omega
theorem num_max : Num 9218868437227405311 := by unfold Num; decide
theorem sr_max : sr 9218868437227405311 = 9218868437227405311 := by decide
theorem num_nmax : Num 18442240474082181119 := by unfold Num; decide
theorem sr_nmax : sr 18442240474082181119 = -9218868437227405311 := by decide
theorem plus_wf {x : Nat} (h : (Lit.float .f64 x).wf = true) : (Lit.float .f64 (plusB x)).wf = true := by
  by_cases h0 : sr x = 0
  · rw [plusB, if_pos h0]; rfl
  · rw [plusB, if_neg h0]; exact h
theorem clean_wf {l : List Nat} (h : ∀ z ∈ l, (Lit.float .f64 z).wf = true) : ∀ z ∈ cleanOf l, (Lit.float .f64 z).wf = true := by
  intro z hz
  simp only [cleanOf, List.mem_map, List.mem_filter] at hz
  obtain ⟨y, ⟨hy, _⟩, rfl⟩ := hz
  exact plus_wf (h y hy)

set_option maxRecDepth 100000 in
set_option maxHeartbeats 4000000 in
theorem rclean_any (A : Option Addr) (n c : Nat) (l : List Nat) (w : World) (hl : SlF w A n c l) (hn : n ≤ 65536) :
    Calls Try.prog 23 #[.slice A n c] w fun e w' => ∃ A' c', e = .returned (.slice A' (cleanOf l).length c') ∧ OwF w.heap.size w' A' (cleanOf l).length c' (cleanOf l) ∧ Below w.heap.size w w' := by
  have hll := hl.len
  have HL := Lib.hid hl; clear hl
  have HO0 : Hid (OwF w.heap.size w none 0 0 []) := Lib.hid (World.ownsRow_nil w w.heap.size 22 1)
  go_enter Try.func23, Try.ntmps23
  go_wp2
  go_loopg [3, 4] n (fun kk v i wl => ∃ (j : Nat) (A2 : Option Addr) (c2 : Nat), j ≤ n ∧ n - j ≤ kk ∧ i = .int .i64 j ∧ v = .slice A2 (cleanOf (l.take j)).length c2 ∧ OwF w.heap.size wl A2 (cleanOf (l.take j)).length c2 (cleanOf (l.take j)) ∧ Below w.heap.size w wl)
  case atStart => exact ⟨0, none, 0, by omega, by omega, rfl, rfl, HO0.out, Below.refl _ _⟩
  case round =>
    obtain ⟨j, A2, c2, hj, hjk, rfl, rfl, ho, hb⟩ := hrel
    have HO := Lib.hid ho; have HB := Lib.hid hb; clear ho hb
    by_cases hlt : j < n
    · have HLr := Lib.hid (HL.out.under HB.out)
      obtain ⟨b, off, rfl, hc⟩ := HLr.out.at_ hlt
      have hw := HL.out.wf_at hlt
      have hstep := clean_step l j (by omega)
      have hle := clean_le l j
      generalize l.getD j 0 = x at *
      obtain ⟨K, hK⟩ : ∃ K, cleanOf (l.take j) = K := ⟨_, rfl⟩
      rw [hK] at hstep HO hle ⊢
      have HS := Lib.hid hstep; clear hstep hK
      have x1 : (j : Int) < n := by omega
      have x0 : (0 : Int) ≤ j := by omega
      have c1 := rnone_any x hw wr
      by_cases hf : finB x = true
      · have hnx : nanB x = false := by cases h : nanB x; · rfl
                                        · simp [finB, h] at hf
        have nx := num_of hw hnx
        have hni : ¬ infOf (sr x) := by simp [finB, hnx] at hf; exact hf
        have hbd := nx.bound
        have h1 := gt_num nx num_max
        have h2 := lt_num nx num_nmax
        have h3 := eq_num nx num_zero
        rw [sr_max, decide_eq_false (by unfold infOf at hni; omega)] at h1
        rw [sr_nmax, decide_eq_false (by unfold infOf at hni; omega)] at h2
        rw [sr_zero] at h3
        rw [hnx] at c1
        have C1 := Lib.hid c1; clear c1
        obtain ⟨hN, hO3, hC, h1c, hBD, hB3⟩ := push_facts (plusB x) HO.out HB.out HB.out.size (by omega)
        rw [if_pos hf] at HS
        by_cases hz : sr x = 0
        · rw [decide_eq_true hz] at h3
          rw [show plusB x = 0 from if_pos hz] at *
          clear hf hnx nx hni hbd hw hz
          go_wp2_with fail
          refine C1.out.mono ?_
          rintro e w' ⟨rfl, rfl⟩
          go_wp2_with (with_reducible refine wpList_push (o := ⟨some 33, _, _, _, _, _⟩) rfl (.tmp 30) (.tmp 32) 31 rfl w.heap.size 22 (.float .f64 0) 1 8 Try.underlying31 info_f64 ?hz (by decide) A2 K.length c2 (flts K) ?hs hO3 ⟨wr.heap.size, 0, none⟩ 1 1 [.float .f64 0] ?hx hN hC h1c hBD ?next)
          case hz => rfl
          case hs => rfl
          case hx => rfl
          case next =>
            intro A4 c4 w4 ho4 hg4
            go_wp2
            go_roundg (gk - 1)
            case measure => omega
            case rel =>
              refine ⟨j + 1, A4, c4, by omega, by omega, by go_num, by rw [HS.out]; simp, ?_, below_own hB3.out hBD.out.2.2 hO3.out (Nat.le_refl _) rfl hg4.out⟩
              rw [HS.out]
              have := ho4.out
              simpa [OwF, flts] using this
        · rw [decide_eq_false hz] at h3
          rw [show plusB x = x from if_neg hz] at *
          clear hf hnx nx hni hbd hw hz
          go_wp2_with fail
          refine C1.out.mono ?_
          rintro e w' ⟨rfl, rfl⟩
          go_wp2_with (with_reducible refine wpList_push (o := ⟨some 33, _, _, _, _, _⟩) rfl (.tmp 30) (.tmp 32) 31 rfl w.heap.size 22 (.float .f64 0) 1 8 Try.underlying31 info_f64 ?hz (by decide) A2 K.length c2 (flts K) ?hs hO3 ⟨wr.heap.size, 0, none⟩ 1 1 [.float .f64 x] ?hx hN hC h1c hBD ?next)
          case hz => rfl
          case hs => rfl
          case hx => rfl
          case next =>
            intro A4 c4 w4 ho4 hg4
            go_wp2
            go_roundg (gk - 1)
            case measure => omega
            case rel =>
              refine ⟨j + 1, A4, c4, by omega, by omega, by go_num, by rw [HS.out]; simp, ?_, below_own hB3.out hBD.out.2.2 hO3.out (Nat.le_refl _) rfl hg4.out⟩
              rw [HS.out]
              have := ho4.out
              simpa [OwF, flts] using this
      · rw [if_neg hf] at HS
        have hrel2 : ∀ i, i = Value.int .i64 ((j : Int) + 1) → ∃ (j' : Nat) (A' : Option Addr) (c' : Nat), j' ≤ n ∧ n - j' ≤ gk - 1 ∧ i = .int .i64 j' ∧ Value.slice A2 K.length c2 = .slice A' (cleanOf (l.take j')).length c' ∧ OwF w.heap.size wr A' (cleanOf (l.take j')).length c' (cleanOf (l.take j')) ∧ Below w.heap.size w wr := by
          intro i hi
          exact ⟨j + 1, A2, c2, by omega, by omega, by rw [hi]; rfl, by rw [HS.out], by rw [HS.out]; exact HO.out, HB.out⟩
        have HR2 := Lib.hid hrel2; clear hrel2
        cases hnx : nanB x
        · have nx := num_of hw hnx
          have hi : infOf (sr x) := by simp [finB, hnx] at hf; exact hf
          have h1 := gt_num nx num_max
          have h2 := lt_num nx num_nmax
          rw [sr_max] at h1
          rw [sr_nmax] at h2
          rw [hnx] at c1
          have C1 := Lib.hid c1; clear c1
          rcases hi with hi | hi
          · rw [hi, show decide ((9218868437227405311 : Int) < 9218868437227405312) = true from by decide] at h1
            rw [hi, show decide ((9218868437227405312 : Int) < -9218868437227405311) = false from by decide] at h2
            clear hf hnx nx hw hi
            go_wp2_with fail
            refine C1.out.mono ?_
            rintro e w' ⟨rfl, rfl⟩
            go_wp2
            go_roundg (gk - 1)
            case measure => omega
            case rel => exact HR2.out _ (by go_num)
          · rw [hi, show decide ((9218868437227405311 : Int) < -9218868437227405312) = false from by decide] at h1
            rw [hi, show decide ((-9218868437227405312 : Int) < -9218868437227405311) = true from by decide] at h2
            clear hf hnx nx hw hi
            go_wp2_with fail
            refine C1.out.mono ?_
            rintro e w' ⟨rfl, rfl⟩
            go_wp2
            go_roundg (gk - 1)
            case measure => omega
            case rel => exact HR2.out _ (by go_num)
        · rw [hnx] at c1
          have C1 := Lib.hid c1; clear c1 hf hnx hw
          go_wp2_with fail
          refine C1.out.mono ?_
          rintro e w' ⟨rfl, rfl⟩
          go_wp2
          go_roundg (gk - 1)
          case measure => omega
          case rel => exact HR2.out _ (by go_num)
    · obtain rfl : j = n := by omega
      have e : l.take j = l := by rw [← hll, List.take_length]
      rw [e] at HO ⊢
      go_wp2
      go_ret
      exact ⟨A2, c2, rfl, HO.out, HB.out⟩

end Go.Proofs.Ytidokfbjfdkfdaa
