/-
  linesidelaw05: Bytes; awake: the chapter's examples hold.
-/
import Derived.Test.YtccmickemglmaaaDoorPk

namespace Go.Proofs.YtccmickemglmaaaDoor

open Go.RowKit

open BitsM

def bytesOf (bs : List Bool) : List Nat := (List.range ((bs.length + 7) / 8)).map (byteAt bs)
theorem bytesOf_length (bs : List Bool) : (bytesOf bs).length = (bs.length + 7) / 8 := by simp [bytesOf]
theorem bytesOf_lt (bs : List Bool) : ∀ x ∈ bytesOf bs, x < 256 := by
  intro x hx
  simp only [bytesOf, List.mem_map] at hx
  obtain ⟨i, _, rfl⟩ := hx
  exact byteAt_lt bs i
theorem bits_bytes (bs : List Bool) : bitsOf (bytesOf bs) = bs ++ List.replicate (8 * ((bs.length + 7) / 8) - bs.length) false := by
  apply List.ext_getElem
  · rw [bitsOf_length, bytesOf_length, List.length_append, List.length_replicate]; omega
  intro p h1 h2
  rw [bitsOf_length, bytesOf_length] at h1
  have e1 : (bitsOf (bytesOf bs))[p]'(by rw [bitsOf_length, bytesOf_length]; exact h1) = bitAt (bytesOf bs) p := by simp [bitsOf, bitsFrom]
  have e2 : (bytesOf bs).getD (p / 8) 0 = byteAt bs (p / 8) := by
    have hq : p / 8 < (bytesOf bs).length := by rw [bytesOf_length]; omega
    rw [List.getD_eq_getElem?_getD, List.getElem?_eq_getElem hq]
    simp [bytesOf]
  rw [e1, bitAt, e2, byteAt_testBit, decide_eq_true (by omega), Bool.true_and, show 8 * (p / 8) + (7 - (7 - p % 8)) = p by omega, List.getD_eq_getElem?_getD]
  by_cases hp : p < bs.length
  · rw [List.getElem_append_left hp, List.getElem?_eq_getElem hp]; rfl
  · rw [List.getElem?_eq_none (by omega), List.getElem_append_right (by omega), List.getElem_replicate]; rfl
theorem at8_own {base : Nat} {w : World} {A : Option Addr} {n c : Nat} {xs : List Nat} (h : w.ownsRow base 5 1 (.slice A n c) n (u8s xs)) (hn : xs.length = n) : At8 w A xs := by
  intro h0
  have hs := Sl.of_own h
  cases A with
  | none => have := (hs.2.1 rfl).1; omega
  | some ad => exact ⟨ad, rfl, fun j v hv => hs.2.2 ad rfl j v hv⟩

set_option maxHeartbeats 1000000 in
theorem lbytes_own (A : Option Addr) (m c : Nat) (l : List (Int × Int)) (w : World) (hl : SlP w A m c l) (hm : m ≤ 65536) (hf : ∀ x ∈ l, FitP x) (hb : (laidOf l).length ≤ 65536) :
    Calls Tryd.prog 26 #[.slice A m c] w fun e w' => ∃ A' c' base, e = .returned (.slice A' (bytesOf (laidOf l)).length c') ∧ w'.ownsRow base 5 1 (.slice A' (bytesOf (laidOf l)).length c') (bytesOf (laidOf l)).length (u8s (bytesOf (laidOf l))) ∧ Below w.heap.size w w' := by
  have HL := Lib.hid (laid_any A m c l w hl hm hf)
  clear hl hf
  generalize laidOf l = bs at *
  go_enter Tryd.func26, Tryd.ntmps26
  go_wp2_with fail
  refine HL.out.mono ?_
  rintro e w2 ⟨A2, c2, rfl, ho2, hb2⟩
  have HB := Lib.hid (refBytes_any A2 bs.length c2 bs w2 ⟨rfl, Sl.of_own ho2⟩ hb)
  have HB2 := Lib.hid hb2
  clear ho2 hb2
  go_wp2_with fail
  refine HB.out.mono ?_
  rintro e w3 ⟨A3, c3, rfl, ho3, hb3⟩
  have HB3 := Lib.hid (HB2.out.trans (hb3.mono HB2.out.size))
  have HO3 := Lib.hid ho3
  clear ho3 hb3
  go_wp2
  go_ret
  exact ⟨A3, c3, w2.heap.size, by rw [bytesOf_length]; rfl, by rw [bytesOf_length]; exact HO3.out, HB3.out⟩
theorem lbytes_any (A : Option Addr) (m c : Nat) (l : List (Int × Int)) (w : World) (hl : SlP w A m c l) (hm : m ≤ 65536) (hf : ∀ x ∈ l, FitP x) (hb : (laidOf l).length ≤ 65536) :
    Calls Tryd.prog 26 #[.slice A m c] w fun e w' => ∃ A' c', e = .returned (.slice A' (bytesOf (laidOf l)).length c') ∧ At8 w' A' (bytesOf (laidOf l)) ∧ (bytesOf (laidOf l)).length ≤ c' ∧ Below w.heap.size w w' :=
  (lbytes_own A m c l w hl hm hf hb).mono fun _ _ ⟨A', c', _, h1, h2, h3⟩ => ⟨A', c', h1, at8_own h2 rfl, own_cap h2, h3⟩

theorem it1 : itemsF 57 [1, 5, 100, 7] = ([(57, 8), (1, 2), (49, 13), (5, 8), (100, 10), (7, 8)], 0) := by kernel_rfl
theorem it2 : itemsF 57 [3, 5, 100, 7] = ([], 20) := by kernel_rfl
theorem it3 : itemsF 99 [] = ([], 50) := by kernel_rfl
theorem kn57 : knownB 57 = true := by kernel_rfl
theorem kn2 : knownB 2 = false := by kernel_rfl
theorem up11 : upB 11 = true := by kernel_rfl
theorem sli_made (w : World) (V : List Int) (cs : Array Value) (hcs : cs = (ints V).toArray) (hV : V.length ≤ 65536) : SlI (w.alloc (.cells cs 3)).heap.size (w.alloc (.cells cs 3)) (some ⟨w.heap.size, 0, none⟩) V.length V.length V := by
  have hl : cs.size = V.length := by rw [hcs]; simp [ints]
  have ho := World.ownsRow_lit (base := w.heap.size) (e := 3) (size := 1) w cs V.length (Nat.le_refl _) (by unfold maxLen; omega) (by omega)
  refine ⟨rfl, Nat.le_refl _, ?_, ?_⟩
  · have h := Sl.of_own ho
    rw [hcs] at h ⊢
    simpa using h
  · intro _ a ha
    cases ha
    simp
theorem it_fit : ∀ x ∈ [(57, 8), (1, 2), (49, 13), (5, 8), (100, 10), ((7 : Int), (8 : Int))], FitP x := by
  have h := items_fit 57 [1, 5, 100, 7]
  rw [it1] at h
  exact h
theorem it_get : getF (bitsOf (bytesOf (laidOf [(57, 8), (1, 2), (49, 13), (5, 8), (100, 10), (7, 8)]))) 0 = ((57, [1, 5, 100, 7]), 49, 0) := by
  rw [bits_bytes]
  have h := get_back it1 [] (List.replicate (8 * (((laidOf [(57, 8), (1, 2), (49, 13), (5, 8), (100, 10), ((7 : Int), (8 : Int))]).length + 7) / 8) - (laidOf [(57, 8), (1, 2), (49, 13), (5, 8), (100, 10), ((7 : Int), (8 : Int))]).length) false)
  exact h

set_option maxRecDepth 100000 in
set_option maxHeartbeats 4000000 in
theorem awake_any (w : World) (hwd : Wd w) : Calls Tryd.prog 9 #[] w fun e w' => e = .returned (.bool true) ∧ Below w.heap.size w w' := by
  have HB1 := Lib.hid ((Below.refl w.heap.size w).alloc (Nat.le_refl _) (.cells #[.int .i64 1, .int .i64 5, .int .i64 100, .int .i64 7] 3))
  have hc1 := opk_items 57 _ _ _ _ _ (sli_made w [1, 5, 100, 7] #[.int .i64 1, .int .i64 5, .int .i64 100, .int .i64 7] rfl (by decide)) (by decide) (hwd.under HB1.out)
  rw [it1] at hc1
  have HC1 := Lib.hid hc1; have HWD := Lib.hid hwd; clear hc1 hwd
  go_enter Tryd.func9, Tryd.ntmps9
  go_wp2_with fail
  refine HC1.out.mono ?_
  rintro e w1 ⟨A1, m1, c1, rfl, hs1, hb1⟩
  have HS1 := Lib.hid hs1
  have HB2 := Lib.hid ((HB1.out.trans (hb1.mono HB1.out.size)).alloc (HB1.out.trans (hb1.mono HB1.out.size)).size (.cells #[.int .i64 3, .int .i64 5, .int .i64 100, .int .i64 7] 3))
  have hc2 := opk_items 57 _ _ _ _ _ (sli_made w1 [3, 5, 100, 7] #[.int .i64 3, .int .i64 5, .int .i64 100, .int .i64 7] rfl (by decide)) (by decide) (HWD.out.under HB2.out)
  rw [it2] at hc2
  have HC2 := Lib.hid hc2; clear hc2 hs1 hb1 HC1
  go_wp2_with fail
  refine HC2.out.mono ?_
  rintro e w2 ⟨A2, m2, c2, rfl, hs2, hb2⟩
  have HS2 := Lib.hid (HS1.out.under (((Below.refl w1.heap.size w1).alloc (Nat.le_refl _) (.cells #[.int .i64 3, .int .i64 5, .int .i64 100, .int .i64 7] 3)).trans (hb2.mono (by simp))))
  have HB3 := Lib.hid (HB2.out.trans (hb2.mono HB2.out.size))
  have hc3 := opk_items 99 none 0 0 [] w2 ⟨rfl, Nat.le_refl _, sl_nil _ _, fun _ a h => by cases h⟩ (by decide) (HWD.out.under HB3.out)
  rw [it3] at hc3
  have HC3 := Lib.hid hc3; clear hc3 hs2 hb2 HC2 HS1 HB2 HB1
  go_wp2_with fail
  refine HC3.out.mono ?_
  rintro e w3 ⟨A3, m3, c3, rfl, hs3, hb3⟩
  have hs4 := HS2.out.under hb3
  have HB4 := Lib.hid (HB3.out.trans (hb3.mono HB3.out.size))
  have hm1 : m1 = 6 := hs4.len.symm
  subst hm1
  obtain ⟨b0, o0, rfl, hcell, _⟩ := hs4.at_ (j := 2) (by decide)
  have hcell : w3.cell? ⟨b0, o0 + 2 * 2, none⟩ = some (.int .i64 49) := hcell
  have HBY := Lib.hid (lbytes_any _ 6 c1 _ w3 hs4 (by decide) it_fit (by decide))
  clear hs3 hb3 hs4 HC3 HS2 HB3
  go_wp2_with fail
  refine HBY.out.mono ?_
  rintro e w4 ⟨A5, c5, rfl, ha5, hcap5, hb5⟩
  have hc6 := opk_get A5 c5 _ 0 w4 ha5 (bytesOf_lt _) (by rw [bytesOf_length]; decide) hcap5 (by decide) (by decide) (HWD.out.under (HB4.out.trans (hb5.mono HB4.out.size)))
  rw [it_get] at hc6
  have HC6 := Lib.hid hc6
  have HB5 := Lib.hid (HB4.out.trans (hb5.mono HB4.out.size))
  clear ha5 hb5 hc6 hcap5 HBY HB4 hcell
  go_wp2_with fail
  refine HC6.out.mono ?_
  rintro e w6 ⟨A7, n7, c7, rfl, hs7', hb7⟩
  have hs7 : SlN w6 A7 n7 c7 _ := ⟨hs7'.len, hs7'.sl⟩
  clear hs7'
  have HB7 := Lib.hid ((HB5.out.trans (hb7.mono HB5.out.size)).alloc (HB5.out.trans (hb7.mono HB5.out.size)).size (.cells #[.int .i64 57, .slice A7 n7 c7] 24))
  have hs8 := hs7.under ((Below.refl w6.heap.size w6).alloc (Nat.le_refl _) (.cells #[.int .i64 57, .slice A7 n7 c7] 24))
  have hn7 : n7 = 4 := hs7.len.symm
  subst hn7
  obtain ⟨b9, o9, rfl, hc9⟩ := hs8.at_ (j := 2) (by decide)
  have hc9 : (w6.alloc (.cells #[.int .i64 57, .slice (some ⟨b9, o9, none⟩) 4 c7] 24)).cell? ⟨b9, o9 + 2, none⟩ = some (.int .i64 100) := hc9
  have hk1 := fun w => opk_known 57 w
  rw [kn57] at hk1
  have hk2 := fun w => opk_known 2 w
  rw [kn2] at hk2
  have hk3 := fun w => opk_up 11 w
  rw [up11] at hk3
  have HK1 := Lib.hid hk1; have HK2 := Lib.hid hk2; have HK3 := Lib.hid hk3
  clear hk1 hk2 hk3 hs7 hs8 hb7 HC6 HB5
  unfold pkV
  go_wp2_with fail
  refine (HK1.out _).mono ?_
  rintro e w8 ⟨rfl, hb8⟩
  have HB8 := Lib.hid (HB7.out.trans (hb8.mono HB7.out.size)); clear hb8
  go_wp2_with fail
  refine (HK2.out _).mono ?_
  rintro e w9 ⟨rfl, hb9⟩
  have HB9 := Lib.hid (HB8.out.trans (hb9.mono HB8.out.size)); clear hb9
  go_wp2_with fail
  refine (HK3.out _).mono ?_
  rintro e w10 ⟨rfl, hb10⟩
  have HB10 := Lib.hid (HB9.out.trans (hb10.mono HB9.out.size)); clear hb10
  go_wp2
  go_ret
  exact ⟨rfl, HB10.out⟩
end Go.Proofs.YtccmickemglmaaaDoor
