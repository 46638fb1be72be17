/-
  VarsNames, called in a world whose widths are the table's: it answers true, and nothing that was there has turned.
-/
import Derived.Test.YtijececmengdmaaDoorLawAwake02
namespace Go.Proofs.YtijececmengdmaaDoor
open Go.RowKit

theorem find_name (v : Int) (h : 0 ≤ v ∧ v < 96) : findOf (nameOf v) = v ∧ nameOf v ≠ ByteArray.empty := by
  have := vall (fun i => decide (findOf (nameOf i) = i) && decide ((nameOf i).data.size ≠ 0)) (by decide +kernel) v h.1 h.2
  have e : ((v.toNat : Nat) : Int) = v := by omega
  simp only [e, Bool.and_eq_true, decide_eq_true_eq] at this
  refine ⟨this.1, fun he => this.2 ?_⟩
  rw [he]
  rfl

set_option maxHeartbeats 2000000 in
theorem varsNames_walk (a b : Int) (w : World) (wa : (Lit.int .i64 a).wf = true) (wb : (Lit.int .i64 b).wf = true) (hw : Wd w) :
    Calls Tryd.prog 7 #[.int .i64 a, .int .i64 b] w fun e w' => e = .returned (.bool true) ∧ Below w.heap.size w w' := by
  have HA := Lib.hid (awake02_any w hw)
  clear hw wa wb
  by_cases ha : 0 ≤ a ∧ a < 96
  · by_cases hb : 0 ≤ b ∧ b < 96
    · obtain ⟨a1, a2⟩ := find_name a ha
      obtain ⟨b1, _⟩ := find_name b hb
      have hn := name_any a
      have hm := name_any b
      have hq : decide (nameOf a = nameOf b) = decide (a = b) := by
        by_cases h : a = b
        · rw [h]; simp
        · have : nameOf a ≠ nameOf b := fun e => h (by rw [← a1, ← b1, e])
          rw [decide_eq_false h, decide_eq_false this]
      rw [← bytes_beq] at hq
      have a3 : (nameOf a).toList.isEmpty = false := by
        have : (nameOf a).toList ≠ [] := fun e => a2 (by
          have h2 := bytes_beq (nameOf a) ByteArray.empty
          rw [e, show ByteArray.empty.toList = [] from by kernel_rfl] at h2
          exact of_decide_eq_true h2.symm)
        cases hl : (nameOf a).toList with
        | nil => exact absurd hl this
        | cons _ _ => rfl
      have hf := find_any (nameOf a)
      rw [a1] at hf
      clear a1 a2 b1
      generalize nameOf a = S at *
      generalize nameOf b = T at *
      obtain ⟨ha0, ha1⟩ := ha
      obtain ⟨hb0, hb1⟩ := hb
      have HN := Lib.hid hn; have HM := Lib.hid hm; have HF := Lib.hid hf; clear hn hm hf
      by_cases h : a = b
      · subst h
        rw [decide_eq_true rfl] at hq
        go_enter Tryd.func7, Tryd.ntmps7
        go_wp2_with fail
        refine HA.out.mono ?_
        rintro e w1 ⟨rfl, b1⟩
        have HB1 := Lib.hid b1
        clear b1 HA
        go_wp2_with fail
        refine (HN.out w1).mono ?_
        rintro e w2 ⟨rfl, b⟩
        have HB2 := Lib.hid (HB1.out.trans (b.mono HB1.out.size))
        clear b HB1
        go_wp2_with fail
        refine (HF.out w2).mono ?_
        rintro e w3 ⟨rfl, b⟩
        have HB3 := Lib.hid (HB2.out.trans (b.mono HB2.out.size))
        clear b HB2
        go_wp2_with fail
        refine (HN.out w3).mono ?_
        rintro e w4 ⟨rfl, b⟩
        have HB4 := Lib.hid (HB3.out.trans (b.mono HB3.out.size))
        clear b HB3
        go_wp2_with fail
        refine (HM.out w4).mono ?_
        rintro e w5 ⟨rfl, b⟩
        have HB5 := Lib.hid (HB4.out.trans (b.mono HB4.out.size))
        clear b HB4
        go_wp2_with fail
        refine (HN.out w5).mono ?_
        rintro e w6 ⟨rfl, b⟩
        have HB6 := Lib.hid (HB5.out.trans (b.mono HB5.out.size))
        clear b HB5
        go_wp2
        go_ret
        exact ⟨rfl, HB6.out⟩
      · rw [decide_eq_false h] at hq
        have hab : (a == b) = false := by simp [h]
        go_enter Tryd.func7, Tryd.ntmps7
        go_wp2_with fail
        refine HA.out.mono ?_
        rintro e w1 ⟨rfl, b1⟩
        have HB1 := Lib.hid b1
        clear b1 HA
        go_wp2_with fail
        refine (HN.out w1).mono ?_
        rintro e w2 ⟨rfl, b⟩
        have HB2 := Lib.hid (HB1.out.trans (b.mono HB1.out.size))
        clear b HB1
        go_wp2_with fail
        refine (HF.out w2).mono ?_
        rintro e w3 ⟨rfl, b⟩
        have HB3 := Lib.hid (HB2.out.trans (b.mono HB2.out.size))
        clear b HB2
        go_wp2_with fail
        refine (HN.out w3).mono ?_
        rintro e w4 ⟨rfl, b⟩
        have HB4 := Lib.hid (HB3.out.trans (b.mono HB3.out.size))
        clear b HB3
        go_wp2_with fail
        refine (HM.out w4).mono ?_
        rintro e w5 ⟨rfl, b⟩
        have HB5 := Lib.hid (HB4.out.trans (b.mono HB4.out.size))
        clear b HB4
        go_wp2_with fail
        refine (HN.out w5).mono ?_
        rintro e w6 ⟨rfl, b⟩
        have HB6 := Lib.hid (HB5.out.trans (b.mono HB5.out.size))
        clear b HB5
        go_wp2
        go_ret
        exact ⟨rfl, HB6.out⟩
    · obtain ⟨ha0, ha1⟩ := ha
      obtain h1 | ⟨h1, h2⟩ : b < 0 ∨ (¬ b < 0 ∧ 96 ≤ b) := by omega
      · clear hb
        go_enter Tryd.func7, Tryd.ntmps7
        go_wp2_with fail
        refine HA.out.mono ?_
        rintro e w1 ⟨rfl, b1⟩
        have HB1 := Lib.hid b1
        clear b1 HA
        go_wp2
        go_ret
        exact ⟨rfl, HB1.out⟩
      · clear hb
        go_enter Tryd.func7, Tryd.ntmps7
        go_wp2_with fail
        refine HA.out.mono ?_
        rintro e w1 ⟨rfl, b1⟩
        have HB1 := Lib.hid b1
        clear b1 HA
        go_wp2
        go_ret
        exact ⟨rfl, HB1.out⟩
  · have hn := name_any a
    rw [nameOf, vrow_out ha] at hn
    have HN := Lib.hid hn; clear hn
    have hs : vnone.name.toList.isEmpty = true := by kernel_rfl
    generalize vnone.name = S at *
    by_cases hb : b < 0
    · obtain h1 | ⟨h1, h2⟩ : a < 0 ∨ (¬ a < 0 ∧ 96 ≤ a) := by omega
      · clear ha
        go_enter Tryd.func7, Tryd.ntmps7
        go_wp2_with fail
        refine HA.out.mono ?_
        rintro e w1 ⟨rfl, b1⟩
        have HB1 := Lib.hid b1
        clear b1 HA
        go_wp2_with fail
        refine (HN.out w1).mono ?_
        rintro e w2 ⟨rfl, b⟩
        have HB2 := Lib.hid (HB1.out.trans (b.mono HB1.out.size))
        clear b HB1
        go_wp2
        go_ret
        exact ⟨rfl, HB2.out⟩
      · clear ha
        go_enter Tryd.func7, Tryd.ntmps7
        go_wp2_with fail
        refine HA.out.mono ?_
        rintro e w1 ⟨rfl, b1⟩
        have HB1 := Lib.hid b1
        clear b1 HA
        go_wp2_with fail
        refine (HN.out w1).mono ?_
        rintro e w2 ⟨rfl, b⟩
        have HB2 := Lib.hid (HB1.out.trans (b.mono HB1.out.size))
        clear b HB1
        go_wp2
        go_ret
        exact ⟨rfl, HB2.out⟩
    · obtain h1 | ⟨h1, h2⟩ : a < 0 ∨ (¬ a < 0 ∧ 96 ≤ a) := by omega
      · clear ha
        go_enter Tryd.func7, Tryd.ntmps7
        go_wp2_with fail
        refine HA.out.mono ?_
        rintro e w1 ⟨rfl, b1⟩
        have HB1 := Lib.hid b1
        clear b1 HA
        go_wp2_with fail
        refine (HN.out w1).mono ?_
        rintro e w2 ⟨rfl, b⟩
        have HB2 := Lib.hid (HB1.out.trans (b.mono HB1.out.size))
        clear b HB1
        go_wp2
        go_ret
        exact ⟨rfl, HB2.out⟩
      · clear ha
        go_enter Tryd.func7, Tryd.ntmps7
        go_wp2_with fail
        refine HA.out.mono ?_
        rintro e w1 ⟨rfl, b1⟩
        have HB1 := Lib.hid b1
        clear b1 HA
        go_wp2_with fail
        refine (HN.out w1).mono ?_
        rintro e w2 ⟨rfl, b⟩
        have HB2 := Lib.hid (HB1.out.trans (b.mono HB1.out.size))
        clear b HB1
        go_wp2
        go_ret
        exact ⟨rfl, HB2.out⟩
end Go.Proofs.YtijececmengdmaaDoor
