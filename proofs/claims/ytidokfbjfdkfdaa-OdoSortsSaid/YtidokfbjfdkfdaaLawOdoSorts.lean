/-
  OdoSorts answers true, and nothing that was there has turned.
-/
import Derived.Test.YtidokfbjfdkfdaaLawAwake04
namespace Go.Proofs.Ytidokfbjfdkfdaa
open Go.RowKit Fl
attribute [local irreducible] N E mval top U

theorem sameB_refl (x : Nat) : sameB x x = true := decide_eq_true rfl
theorem listsB_refl (l : List Nat) : listsB l l = true := by
  rw [listsB, decide_eq_true rfl, Bool.true_and]
  exact List.all_eq_true.2 fun i _ => sameB_refl _
theorem getD_wf {l : List Nat} (h : ∀ z ∈ l, (Lit.float .f64 z).wf = true) (i : Nat) : (Lit.float .f64 (l.getD i 0)).wf = true := by
  rw [List.getD_eq_getElem?_getD]
  cases hi : l[i]? with
  | none => rfl
  | some y => exact h y (List.mem_of_getElem? hi)
theorem mid_wf {l : List Nat} (h : ∀ z ∈ l, (Lit.float .f64 z).wf = true) : (Lit.float .f64 (middleOf l).1).wf = true := by
  unfold middleOf
  by_cases h0 : (someOf l).length = 0
  · rw [if_pos h0]; rfl
  · rw [if_neg h0]
    exact getD_wf (sort_wf (some_wf h)) _
theorem clean_len (l : List Nat) : (cleanOf l).length ≤ l.length := by
  have := clean_le l l.length
  rwa [List.take_length] at this

set_option maxRecDepth 100000 in
set_option maxHeartbeats 4000000 in
theorem odoSorts_walk (A : Option Addr) (n c : Nat) (l : List Nat) (w : World) (hl : SlF w A n c l) :
    Calls Try.prog 6 #[.slice A n c] w fun e w' => e = .returned (.bool true) ∧ Below w.heap.size w w' := by
  by_cases hn : n ≤ 200
  · have hll := hl.len
    have HL := Lib.hid hl; clear hl
    have hlt : ¬ (200 : Int) < n := by omega
    have hcl := clean_len l
    have W0 := Lib.hid HL.out.wf
    have WM := Lib.hid (mid_wf HL.out.wf)
    go_enter Try.func6, Try.ntmps6
    go_wp2_with fail
    refine (awake04_any _).mono ?_
    rintro e w1 ⟨rfl, b⟩
    have HB1 := Lib.hid b; clear b
    have HS1 := Lib.hid (HL.out.under HB1.out).sl
    have HN0 : Hid (w1.ownsRow w1.heap.size 22 1 (.slice none 0 0) 0 []) := Lib.hid (World.ownsRow_nil w1 _ 22 1)
    have HF1 := Lib.hid (flts_one l)
    have HBD : Hid (0 + n ≤ maxLen ∧ (0 + n) * 8 ≤ 140737488355328 ∧ w1.heap.size ≤ w1.heap.size) := ⟨by unfold maxLen; omega, by omega, Nat.le_refl _⟩
    go_wp2_with (with_reducible refine wpList_pour (o := ⟨some 23, _, _, _, _, _⟩) rfl (.const (.slice none 0 0)) (.tmp 22) 31 rfl w1.heap.size 22 (.float .f64 0) 1 8 Try.underlying31 info_f64 ?hz (by decide) none 0 0 [] ?hs HN0 A n c (flts l) ?hx HS1 HF1 HBD ?next)
    case hz => rfl
    case hs => rfl
    case hx => rfl
    case next =>
      intro A2 c2 w2 ho2 hg2
      have HB2 := Lib.hid (below_own HB1.out HB1.out.size HN0.out HB1.out.size rfl hg2.out)
      have h2 : SlF w2 A2 n c2 l := ⟨hll, W0.out, Sl.of_own ho2.out⟩
      have HO2 := Lib.hid h2; clear h2 ho2 hg2 HN0 HBD HF1 HS1 HB1
      go_wp2_with fail
      refine (odo_sort A2 n c2 l _ HO2.out (by omega)).mono ?_
      rintro e w3 ⟨A3, c3, rfl, h3, b⟩
      have HB3 := Lib.hid (HB2.out.trans (b.mono HB2.out.size))
      have HO3 := Lib.hid (HO2.out.under b)
      have HS3 := Lib.hid h3
      clear b h3 HO2 HB2
      go_wp2_with fail
      refine (rsort_any A n c l _ (HL.out.under HB3.out) (by omega)).mono ?_
      rintro e w4 ⟨A4, c4, rfl, h4, b⟩
      have HB4 := Lib.hid (HB3.out.trans (b.mono HB3.out.size))
      have HO4 := Lib.hid (HO3.out.under b)
      have HS4 := Lib.hid (HS3.out.under b)
      have h4' : SlF w4 A4 n c4 (sortOf l) := ⟨by rw [sort_length]; exact hll, sort_wf W0.out, own_sl h4⟩
      have HR4 := Lib.hid h4'
      clear b h4 h4' HO3 HB3 HS3
      go_wp2_with fail
      have c5 := rlists_any A3 A4 n c3 n c4 (sortOf l) (sortOf l) w4 HS4.out HR4.out (by omega) (by omega)
      rw [listsB_refl] at c5
      refine c5.mono ?_
      clear c5
      rintro e w5 ⟨rfl, q5, hq5⟩
      have HB5 : Hid (Below w.heap.size w w5) := Lib.hid (by rw [hq5]; exact below_draws HB4.out q5)
      have HO5 : Hid (SlF w5 A2 n c2 l) := Lib.hid (by rw [hq5]; exact HO4.out.draws q5)
      clear hq5 HB4 HO4 HS4 HR4
      go_wp2_with fail
      refine (odo_clean A2 n c2 l _ HO5.out (by omega)).mono ?_
      rintro e w6 ⟨A6, c6, rfl, h6, b⟩
      have HB6 := Lib.hid (HB5.out.trans (b.mono HB5.out.size))
      have HO6 := Lib.hid (HO5.out.under b)
      have HS6 := Lib.hid h6
      clear b h6 HO5 HB5
      go_wp2_with fail
      refine (rclean_any A n c l _ (HL.out.under HB6.out) (by omega)).mono ?_
      rintro e w7 ⟨A7, c7, rfl, h7, b⟩
      have HB7 := Lib.hid (HB6.out.trans (b.mono HB6.out.size))
      have HO7 := Lib.hid (HO6.out.under b)
      have HS7 := Lib.hid (HS6.out.under b)
      have h7' : SlF w7 A7 (cleanOf l).length c7 (cleanOf l) := ⟨rfl, clean_wf W0.out, own_sl h7⟩
      have HR7 := Lib.hid h7'
      clear b h7 h7' HO6 HB6 HS6
      go_wp2_with fail
      have c8 := rlists_any A6 A7 (cleanOf l).length c6 (cleanOf l).length c7 (cleanOf l) (cleanOf l) w7 HS7.out HR7.out (by omega) (by omega)
      rw [listsB_refl] at c8
      refine c8.mono ?_
      clear c8
      rintro e w8 ⟨rfl, q8, hq8⟩
      have HB8 : Hid (Below w.heap.size w w8) := Lib.hid (by rw [hq8]; exact below_draws HB7.out q8)
      have HO8 : Hid (SlF w8 A2 n c2 l) := Lib.hid (by rw [hq8]; exact HO7.out.draws q8)
      clear hq8 HB7 HO7 HS7 HR7
      have c9 := odo_middle A2 n c2 l w8 HO8.out (by omega)
      have c10 := fun w hh => rmid_any A n c l w hh (by omega)
      have c11 := fun w => rsame_any (middleOf l).1 (middleOf l).1 WM.out WM.out w
      rw [midV] at c9 c10
      rw [sameB_refl] at c11
      clear WM
      generalize (middleOf l).1 = m at *
      generalize (middleOf l).2 = d at *
      have C10 := Lib.hid c10; have C11 := Lib.hid c11; clear c10 c11
      go_wp2_with fail
      refine c9.mono ?_
      clear c9
      rintro e w9 ⟨rfl, b⟩
      have HB9 := Lib.hid (HB8.out.trans (b.mono HB8.out.size))
      have HO9 := Lib.hid (HO8.out.under b)
      clear b HB8 HO8
      go_wp2_with fail
      refine (C10.out _ (HL.out.under HB9.out)).mono ?_
      rintro e w10 ⟨rfl, b⟩
      have HB10 := Lib.hid (HB9.out.trans (b.mono HB9.out.size))
      have HO10 := Lib.hid (HO9.out.under b)
      clear b HB9 HO9
      go_wp2_with fail
      refine (C11.out _).mono ?_
      rintro e w11 ⟨rfl, rfl⟩
      have c12 := rlists_any A2 A n c2 n c l l w10 HO10.out (HL.out.under HB10.out) (by omega) (by omega)
      rw [listsB_refl] at c12
      go_wp2_with fail
      refine c12.mono ?_
      clear c12
      rintro e w12 ⟨rfl, q12, hq12⟩
      have HB12 : Hid (Below w.heap.size w w12) := Lib.hid (by rw [hq12]; exact below_draws HB10.out q12)
      clear hq12
      cases d
      all_goals
        go_wp2
        go_ret
        exact ⟨rfl, HB12.out⟩
  · have hlt : (200 : Int) < n := by omega
    clear hl hn
    go_enter Try.func6, Try.ntmps6
    go_wp2_with fail
    refine (awake04_any _).mono ?_
    rintro e w1 ⟨rfl, b⟩
    have HB1 := Lib.hid b; clear b
    go_wp2
    go_ret
    exact ⟨rfl, HB1.out⟩
end Go.Proofs.Ytidokfbjfdkfdaa
