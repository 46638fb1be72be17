/-
  odo as landed: Sort, whole.
-/
import Derived.Test.YtidokfbjfdkfdaaOdoSrt
namespace Go.Proofs.Ytidokfbjfdkfdaa
open Go.RowKit Fl Go.Sort Go.Lib
attribute [local irreducible] N E mval top U

def tagged (l : List Nat) : Array (Nat × Nat) := l.zipIdx.toArray
theorem tagged_size (l : List Nat) : (tagged l).size = l.length := by simp [tagged]
theorem tagged_at (l : List Nat) {j : Nat} (h : j < l.length) : (tagged l)[j]! = (l.getD j 0, j) := by
  rw [getElem!_pos _ j (by rw [tagged_size]; exact h)]
  simp [tagged, List.getD_eq_getElem?_getD, List.getElem?_eq_getElem h]
theorem wf_lt {z : Nat} (h : (Lit.float .f64 z).wf = true) : z < 18446744073709551616 := by simpa [Lit.wf] using h
theorem lt_wf (z : Nat) : (Lit.float .f64 (z % 18446744073709551616)).wf = true := by
  have := Nat.mod_lt z (show 0 < 18446744073709551616 by omega)
  simp [Lit.wf]; omega

theorem sorted_list {l : List Nat} {d : Array (Nat × Nat)} (hw : ∀ z ∈ l, (Lit.float .f64 z).wf = true) (hd : d.size = l.length) (hp : PermIn 0 l.length (tagged l) d) (hs : Sm.Srt KE TE (pl d) 0 l.length) :
    (d.toList.map fun p => p.1 % 18446744073709551616) = sortOf l := by
  have hp2 : d.toList.Perm l.zipIdx := by
    have h := hp.2.2
    have e1 : d.extract 0 l.length = d := by rw [← hd]; exact Array.extract_size
    have e2 : (tagged l).extract 0 l.length = tagged l := by rw [← tagged_size]; exact Array.extract_size
    rw [e1, e2] at h
    simpa [tagged] using h
  have hs2 : d.toList.Pairwise (Sm.R KE TE) := by
    rw [List.pairwise_iff_getElem]
    intro i j hi hj hij
    have hi' : i < d.size := by simpa using hi
    have hj' : j < d.size := by simpa using hj
    have h := hs i j (Nat.zero_le _) hij (by omega)
    simp only [pl, getElem!_pos d i hi', getElem!_pos d j hj'] at h
    simpa using h
  have h := sort_uniq l.length l rfl (fun z hz => wf_lt (hw z hz)) d.toList hp2 hs2
  rw [← h]
  refine List.map_congr_left ?_
  intro p hpm
  exact Nat.mod_eq_of_lt (wf_lt (hw _ (zip_mem (hp2.mem_iff.1 hpm)).2))

theorem swap_five (args : Array Value) (W : World) : (callFunc 56 args).run Try.prog W = ((Extern.ReflectliteSwapper.swap true args).run Try.prog W).andThen fun v w' => .ok (.value v) w' :=
  run_callFunc_extern Try.func56 (by kernel_rfl) (by kernel_rfl) (by kernel_rfl) (e := Extern.ReflectliteSwapper.swap true) (by kernel_rfl) args W

set_option maxHeartbeats 2000000 in
theorem stable_at (g n c B : Nat) (l : List Nat) (W : World) (base : Nat) (ho : OwF base W (some ⟨g, 0, none⟩) n c l) (hw : ∀ z ∈ l, (Lit.float .f64 z).wf = true) (hl : l.length = n) (h2 : 2 ≤ n) (hn : n ≤ 65536)
    (hB : W.cell? ⟨B, 0, none⟩ = some (.slice (some ⟨g, 0, none⟩) n c)) (hBg : B ≠ g) (hg : g < W.heap.size) :
    Calls Try.prog 36 #[.iface 31 (.slice (some ⟨g, 0, none⟩) n c), .func (.func 37) #[] #[.pointer (some ⟨B, 0, none⟩)]] W fun e w' =>
      e = .returned (.tuple #[]) ∧ ∃ d : Array (Nat × Nat), d.size = n ∧ (d.toList.map fun p => p.1 % 18446744073709551616) = sortOf l ∧ SW encE W g 0 d w' := by
  have hsz : (tagged l).size = n := by rw [tagged_size, hl]
  have hH : Holds encE W g 0 (tagged l) := by
    intro j hj
    have hj2 : j < l.length := by omega
    rw [tagged_at l hj2, Nat.zero_add]
    have hm : l.getD j 0 ∈ l := by rw [List.getD_eq_getElem?_getD, List.getElem?_eq_getElem hj2]; exact List.getElem_mem hj2
    refine ⟨?_, ho.frozenAt j⟩
    rw [ho.cellAt j (by omega), flts_at hj2]
    show _ = some (Value.float FloatKind.f64 (l.getD j 0 % 18446744073709551616))
    rw [Nat.mod_eq_of_lt (wf_lt (hw _ hm))]
  have hless : LessReads Try.prog 37 #[.pointer (some ⟨B, 0, none⟩)] encE (fun x y => decide (KE x < KE y)) g 0 n W := by
    intro m os dk hs i j hi hj
    have hsw : SW encE W g 0 dk (sortWorld encE W g 0 m dk os) := ⟨m, os, rfl⟩
    have hc := hsw.holds hg hH (by rw [hs, hsz])
    exact sortless_any g n c B (sortWorld encE W g 0 m dk os) (fun t => (dk[t]!).1 % 18446744073709551616) (sw_far hsw hBg hB) hn (fun t ht => ⟨by have := (hc t (by omega)).1; rwa [Nat.zero_add] at this, lt_wf _⟩) i j hi hj
  have hswap : SwapSwaps Try.prog (swapN n) (sliceBound Try.prog 22 floatI 14 (some ⟨g, 0, none⟩) n c) encE g 0 n := by
    rw [show sliceBound Try.prog 22 floatI 14 (some ⟨g, 0, none⟩) n c = #[.slice (some ⟨g, 0, none⟩) n c, typeHandle Try.prog 22] by unfold sliceBound; rw [if_neg (swapperK_gt _ _ _ h2)],
      show swapN n = 56 by unfold swapN; rw [if_neg (by omega), if_neg (by omega)]]
    exact swapSwaps_of_literal true _ swap_five 22 floatI info_float float_size float_agg encE (fun _ => rfl) g 0 n c
  have hsw : SW encE W g 0 (tagged l) (atStable (some ⟨g, 0, none⟩) n c W) := ((SW.start hH).alloc _).alloc _
  refine slicestable_any (some ⟨g, 0, none⟩) n c _ _ W _ ?_
  refine (stable_any KE TE encE 37 _ (swapN n) _ g 0 n (tagged l) _ hsz (enters_of Try.func37 (by kernel_rfl) rfl) (by rw [hsz]; exact hsw.lessReads hless hg hsz) (by rw [hsz]; exact hswap) (hsw.holds hg hH rfl) (hsw.lt hg) (by omega) ?_).mono ?_
  · intro i j hij hj
    show ((tagged l)[i]!).2 < ((tagged l)[j]!).2
    rw [tagged_at l (by omega), tagged_at l (by omega)]
    exact hij
  · rintro e w' ⟨he, d, e1, e2, e3, e4⟩
    refine ⟨he, d, by omega, ?_, sw_onto hsw hg e4 e1⟩
    subst hl
    exact sorted_list hw (by omega) e2 e3

theorem sort_short {l : List Nat} (h : l.length ≤ 1) : sortOf l = l := by
  match l, h with
  | [], _ => rfl
  | [x], _ => rfl

set_option maxHeartbeats 2000000 in
theorem osort_any (A : Option Addr) (n c : Nat) (l : List Nat) (w : World) (hl : SlF w A n c l) (hn : n ≤ 65536) :
    Calls Try.prog 20 #[.slice A n c] w fun e w' => ∃ A' c', e = .returned (.slice A' n c') ∧ OwF w.heap.size w' A' n c' (sortOf l) ∧ Below w.heap.size w w' := by
  have HC := hid (clone_any A n c l w hl hn)
  have HW := hid hl.wf
  have HLL := hid hl.len
  clear hl
  go_enter Try.func20, Try.ntmps20
  go_wp2_with fail
  refine HC.out.mono ?_
  rintro e w1 ⟨A1, c1, rfl, ho, hb⟩
  have ho2 : OwF w.heap.size (w1.alloc (.cells #[.slice A1 n c1] 31)) A1 n c1 l := World.ownsRow.alloc ho _
  have hb2 : Below w.heap.size w (w1.alloc (.cells #[.slice A1 n c1] 31)) := hb.trans ((Below.refl _ _).alloc hb.size _)
  have hcell : (w1.alloc (.cells #[.slice A1 n c1] 31)).cell? ⟨w1.heap.size, 0, none⟩ = some (.slice A1 n c1) := by simp
  have HO := hid ho; have HO2 := hid ho2; have HB2 := hid hb2; have HCELL := hid hcell
  by_cases h2 : 2 ≤ n
  · obtain ⟨g, cap, hv, hg1, hg2⟩ := ho.form (by omega)
    injection hv with hv1 _ hv2
    subst hv1
    subst hv2
    have hS := stable_at g n c1 w1.heap.size l (w1.alloc (.cells #[.slice (some ⟨g, 0, none⟩) n c1] 31)) w.heap.size ho2 HW.out HLL.out h2 hn hcell (by omega) (by simp; omega)
    have HS := hid hS
    clear hS ho ho2 hb hb2 hcell
    go_wp2_with fail
    refine HS.out.mono ?_
    rintro e w2 ⟨rfl, d, hd, hsort, hsw⟩
    have hc2 : w2.cell? ⟨w1.heap.size, 0, none⟩ = some (.slice (some ⟨g, 0, none⟩) n c1) := sw_far hsw (by omega) HCELL.out
    have hown := own_sw HO2.out hsw hd
    rw [hsort] at hown
    have hbl := HB2.out.trans (below_sw hsw hg1 (by have := HB2.out.size; omega))
    have HOWN := hid hown; have HBL := hid hbl
    clear hown hbl hsw hsort
    go_wp2
    go_ret
    exact ⟨_, _, rfl, HOWN.out, HBL.out⟩
  · have hS := slicestable_any A1 n c1 37 #[.pointer (some ⟨w1.heap.size, 0, none⟩)] (w1.alloc (.cells #[.slice A1 n c1] 31)) _ (stable_tiny _ _ _ _ n (by omega) _)
    have HS := hid hS
    clear hS ho ho2 hb hb2 hcell
    go_wp2_with fail
    refine HS.out.mono ?_
    rintro e w2 ⟨rfl, hb3⟩
    have hb4 : Below (w1.alloc (.cells #[.slice A1 n c1] 31)).heap.size (w1.alloc (.cells #[.slice A1 n c1] 31)) w2 := by
      refine Below.trans ?_ (hb3.mono (by unfold atStable; simp))
      unfold atStable
      exact ((Below.refl _ _).alloc (Nat.le_refl _) _).alloc (by simp) _
    have hc2 : w2.cell? ⟨w1.heap.size, 0, none⟩ = some (.slice A1 n c1) := by
      rw [hb4.cell (by simp)]; exact HCELL.out
    have hown := own_under HO2.out hb4 (Nat.le_refl _)
    have hbl := HB2.out.trans (hb4.mono HB2.out.size)
    rw [← sort_short (l := l) (by rw [HLL.out]; omega)] at hown
    have HOWN := hid hown; have HBL := hid hbl
    clear hown hbl hb3 hb4
    go_wp2
    go_ret
    exact ⟨_, _, rfl, HOWN.out, HBL.out⟩
end Go.Proofs.Ytidokfbjfdkfdaa
