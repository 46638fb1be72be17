/-
  odo as landed: Middle.
-/
import Derived.Test.YtidokfbjfdkfdaaOdoSrt2
namespace Go.Proofs.Ytidokfbjfdkfdaa
open Go.RowKit Fl Go.Sort Go.Lib
attribute [local irreducible] N E mval top U

theorem some_not (l : List Nat) : someOf l = l.filter notB := rfl

set_option maxHeartbeats 2000000 in
theorem omid_any (A : Option Addr) (n c : Nat) (l : List Nat) (w : World) (hl : SlF w A n c l) (hn : n ≤ 65536) :
    Calls Try.prog 24 #[.slice A n c] w fun e w' => e = .returned (midV (middleOf l)) ∧ Below w.heap.size w w' := by
  have HK := hid (okept_not A n c l w hl hn)
  have hwf := some_wf hl.wf
  have hle : (someOf l).length ≤ 65536 := by
    have := List.length_filter_le notB l
    have := hl.len
    rw [some_not]; omega
  have hM : middleOf l = if (someOf l).length = 0 then (0, false) else ((sortOf (someOf l)).getD (((someOf l).length - 1) / 2) 0, true) := rfl
  obtain ⟨M, hM2⟩ : ∃ M, middleOf l = M := ⟨_, rfl⟩
  rw [hM2] at hM ⊢
  rw [← some_not] at HK
  generalize someOf l = K at *
  obtain ⟨m, hm⟩ : ∃ m, K.length = m := ⟨_, rfl⟩
  rw [hm] at HK hle hM
  have HM := hid hM; have HWF := hid hwf; have HLM := hid hm
  clear hl hM hM2 hwf hm
  go_enter Try.func24, Try.ntmps24
  go_wp2_with fail
  refine HK.out.mono ?_
  rintro e w1 ⟨A1, c1, rfl, ho1, hb1⟩
  have HS := hid (osort_any A1 m c1 K w1 ⟨HLM.out, HWF.out, own_sl ho1⟩ (by omega))
  have HB1 := hid hb1
  clear hb1 ho1
  go_wp2_with fail
  refine HS.out.mono ?_
  rintro e w2 ⟨A2, c2, rfl, ho2, hb2⟩
  have hb : Below w.heap.size w w2 := HB1.out.trans (hb2.mono HB1.out.size)
  have hsl : SlF w2 A2 m c2 (sortOf K) := ⟨by rw [sort_length]; exact HLM.out, sort_wf HWF.out, own_sl ho2⟩
  have HB := hid hb
  clear hb hb2 ho2
  by_cases h0 : m = 0
  · subst h0
    have hM := HM.out
    rw [if_pos rfl] at hM
    subst hM
    clear hsl HM
    go_wp2
    go_ret2
    exact ⟨rfl, HB.out⟩
  · have hM := HM.out
    rw [if_neg h0] at hM
    clear HM
    obtain ⟨i, hi⟩ : ∃ i, (m - 1) / 2 = i := ⟨_, rfl⟩
    have hti := mid_facts m i (by omega) hi
    rw [hi] at hM
    obtain ⟨b, off, rfl, hc⟩ := hsl.at_ (j := i) (by omega)
    generalize (sortOf K).getD i 0 = x at *
    have x1 : (i : Int) < m := by omega
    have x2 : (0 : Int) ≤ i := by omega
    have x3 : ((m : Int) == 0) = false := by simp; omega
    have x4 : (m : Int) ≤ 65536 := by omega
    have x5 : (1 : Int) ≤ m := by omega
    subst hM
    clear hsl hi
    go_wp2
    go_ret2
    exact ⟨rfl, HB.out⟩
end Go.Proofs.Ytidokfbjfdkfdaa
