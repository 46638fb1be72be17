/-
  odo as landed: Clean.
-/
import Derived.Test.YtidokfbjfdkfdaaOdoKept
import Derived.Deep.AppendLies
namespace Go.Proofs.Ytidokfbjfdkfdaa
open Go.RowKit Fl
attribute [local irreducible] N E mval top U

theorem run_store_flt {P : Program} {w : World} {a : Addr} {old : Value} (x : Nat) (h : w.cell? a = some old) (hf : w.frozen? a = false) : (store a (.float .f64 x)).run P w = .ok () (w.setCell a (.float .f64 x)) := by
  rw [run_store P w a _ _ rfl, h, hf]; rfl
def half (K : List Nat) (j : Nat) : List Nat := (K.take j).map plusB ++ K.drop j
theorem half_length (K : List Nat) (j : Nat) : (half K j).length = K.length := by
  simp [half, List.length_take, List.length_drop]; omega
theorem half_at (K : List Nat) (j : Nat) (h : j < K.length) : (flts (half K j))[j]? = some (.float .f64 (K.getD j 0)) := by
  have e : (half K j)[j]? = some (K.getD j 0) := by
    rw [half, List.getElem?_append_right (by simp [List.length_take]; omega)]
    simp [List.length_take, List.getD_eq_getElem?_getD, List.getElem?_eq_getElem h, Nat.min_eq_left (Nat.le_of_lt h)]
  rw [flts, List.getElem?_map, e]; rfl
theorem half_step (K : List Nat) (j : Nat) (h : j < K.length) : half K (j + 1) = (half K j).set j (plusB (K.getD j 0)) := by
  have e : K.getD j 0 = K[j] := by simp [List.getD_eq_getElem?_getD, List.getElem?_eq_getElem h]
  have hl : ((K.take j).map plusB).length = j := by simp [List.length_take]; omega
  rw [half, half, List.set_append, if_neg (by rw [hl]; omega), hl, Nat.sub_self, List.drop_eq_getElem_cons h, List.set_cons_zero, List.take_succ_eq_append_getElem h, List.map_append, e, List.append_assoc]
  rfl
theorem half_same (K : List Nat) (j : Nat) (h : j < K.length) (h0 : plusB (K.getD j 0) = K.getD j 0) : half K (j + 1) = half K j := by
  rw [half_step K j h, h0]
  apply List.ext_getElem?
  intro i
  rw [List.getElem?_set]
  split
  · rename_i hi; subst hi
    rw [if_pos (by rw [half_length]; exact h)]
    have := half_at K j h
    rw [flts, List.getElem?_map] at this
    cases hq : (half K j)[j]? with
    | none => rw [hq] at this; cases this
    | some v => rw [hq] at this; injection this with this; injection this with _ this; rw [this]
  · rfl
theorem flts_set (l : List Nat) (j v : Nat) : (flts l).set j (.float .f64 v) = flts (l.set j v) := by simp [flts, List.map_set]

set_option maxRecDepth 100000 in
set_option maxHeartbeats 4000000 in
theorem oclean_any (A : Option Addr) (n c : Nat) (l : List Nat) (w : World) (hl : SlF w A n c l) (hn : n ≤ 65536) :
    Calls Try.prog 22 #[.slice A n c] w fun e w' => ∃ A' c', e = .returned (.slice A' (cleanOf l).length c') ∧ OwF w.heap.size w' A' (cleanOf l).length c' (cleanOf l) ∧ Below w.heap.size w w' := by
  have HK := Lib.hid (okept_fin A n c l w hl hn)
  have hwf := hl.wf
  have hfw : ∀ z ∈ l.filter finB, (Lit.float .f64 z).wf = true ∧ nanB z = false := by
    intro z hz
    rw [List.mem_filter] at hz
    refine ⟨hwf z hz.1, ?_⟩
    have := hz.2
    unfold finB at this
    cases h : nanB z
    · rfl
    · rw [h] at this; simp at this
  have hC : cleanOf l = (l.filter finB).map plusB := rfl
  have hle : (l.filter finB).length ≤ 65536 := by
    have := List.length_filter_le finB l
    have := hl.len
    omega
  rw [hC, List.length_map]
  generalize l.filter finB = K at *
  obtain ⟨m, hm⟩ : ∃ m, K.length = m := ⟨_, rfl⟩
  rw [hm] at HK hle ⊢
  have HF := Lib.hid hfw; have HM := Lib.hid hm
  clear hfw hwf hC hl hm
  go_enter Try.func22, Try.ntmps22
  go_wp2_with fail
  refine HK.out.mono ?_
  rintro e w1 ⟨A1, c1, rfl, ho1, hb1⟩
  have HO1 := Lib.hid ho1; have HB1 := Lib.hid hb1; clear ho1 hb1
  go_wp2
  go_loopg [10] m (fun kk i wl => ∃ j : Nat, j ≤ m ∧ m - j ≤ kk ∧ i = .int .i64 j ∧ OwF w.heap.size wl A1 m c1 (half K j) ∧ Below w.heap.size w wl)
  case atStart => exact ⟨0, by omega, by omega, rfl, by simpa [half] using HO1.out, HB1.out⟩
  case round =>
    obtain ⟨j, hj, hjk, rfl, ho, hb⟩ := hrel
    have HO := Lib.hid ho; have HB := Lib.hid hb; clear ho hb
    by_cases hlt : j < m
    · obtain ⟨g, cap, hv, hg1, hg2⟩ := HO.out.form (by omega)
      injection hv with hv1 _ hv2
      subst hv1
      subst hv2
      have hkl : j < K.length := by rw [HM.out]; exact hlt
      have hc : wr.cell? ⟨g, j, none⟩ = some (.float .f64 (K.getD j 0)) := by
        rw [HO.out.cellAt j (by omega), half_at K j hkl]
      have hfz : wr.frozen? ⟨g, j, none⟩ = false := HO.out.frozenAt j
      have hmem : K.getD j 0 ∈ K := by
        rw [List.getD_eq_getElem?_getD, List.getElem?_eq_getElem hkl]; exact List.getElem_mem hkl
      obtain ⟨hw, hnn⟩ := HF.out _ hmem
      have nx := num_of hw hnn
      have h3 := eq_num nx num_zero
      rw [sr_zero] at h3
      have hst := half_step K j hkl
      have hsa := half_same K j hkl
      have hstore := run_store_flt (P := Try.prog) 0 hc hfz
      have hs := HO.out.stored j (.float .f64 0)
      rw [flts_set] at hs
      generalize K.getD j 0 = x at *
      have x1 : (j : Int) < m := by omega
      have x0 : (0 : Int) ≤ j := by omega
      by_cases hz : sr x = 0
      · rw [decide_eq_true hz] at h3
        rw [show plusB x = 0 from if_pos hz] at hst
        rw [← hst] at hs
        have HS := Lib.hid hs
        clear hst hsa hs nx hw hnn hmem hz hkl
        go_wp2
        go_roundg (gk - 1)
        case measure => omega
        case rel => exact ⟨j + 1, by omega, by omega, by go_num, HS.out.1, below_own HB.out HB.out.size HO.out (Nat.le_refl _) rfl HS.out.2⟩
      · rw [decide_eq_false hz] at h3
        have hsa := hsa (if_neg hz)
        have HSA := Lib.hid hsa
        clear hst hsa hs nx hw hnn hmem hz hkl
        go_wp2
        go_roundg (gk - 1)
        case measure => omega
        case rel => exact ⟨j + 1, by omega, by omega, by go_num, by rw [HSA.out]; exact HO.out, HB.out⟩
    · obtain rfl : j = m := by omega
      have e : half K j = K.map plusB := by rw [half, ← HM.out, List.take_length, List.drop_length, List.append_nil]
      rw [e] at HO
      go_wp2
      go_ret
      exact ⟨A1, c1, rfl, HO.out, HB.out⟩
end Go.Proofs.Ytidokfbjfdkfdaa
