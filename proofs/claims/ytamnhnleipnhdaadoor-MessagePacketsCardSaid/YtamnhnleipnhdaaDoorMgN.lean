/-
  LawAwake06, LawMsg: merged.
-/
import Derived.Test.YtamnhnleipnhdaaDoorMgM
import Derived.Lib.SmallJoins

/-
  linesidelaw06: awake: the chapter's examples hold.
-/
namespace Go.Proofs.YtamnhnleipnhdaaDoor

open Go.RowKit

open BitsM

theorem sli_made6 (w : World) (V : List Int) (cs : Array Value) (hcs : cs = (ints V).toArray) (hV : V.length ≤ 65536) : SlI (w.alloc (.cells cs 3)).heap.size (w.alloc (.cells cs 3)) (some ⟨w.heap.size, 0, none⟩) V.length V.length V := by
  have hl : cs.size = V.length := by rw [hcs]; simp [ints]
  have ho := World.ownsRow_lit (base := w.heap.size) (e := 3) (size := 1) w cs V.length (Nat.le_refl _) (by unfold maxLen; omega) (by omega)
  refine ⟨rfl, Nat.le_refl _, ?_, ?_⟩
  · have h := Sl.of_own ho
    rw [hcs] at h ⊢
    simpa using h
  · intro _ a ha
    cases ha
    simp
theorem sli_nil6 (w : World) : SlI w.heap.size w none 0 0 [] := ⟨rfl, Nat.le_refl _, sl_nil _ _, fun _ a h => by cases h⟩
theorem slk_nil6 (w : World) : SlK w none 0 0 [] := ⟨rfl, Nat.le_refl _, sl_nil _ _, fun p h => by cases h⟩
theorem ex1 : encF (msgOf 16 256 1 77 [3] []) = ([16, 2, 128, 0, 0, 64, 32, 0, 9, 166], 0) := by kernel_rfl
theorem ex2 : encF (msgOf 3 0 0 0 [] []) = ([], 50) := by kernel_rfl
theorem ex3 : encF (msgOf 16 0 0 0 [] []) = ([], 20) := by kernel_rfl
theorem ex4 : decF [16, 2, 128, 0, 0, 64, 32, 0, 9, 166] = (msgOf 16 256 1 77 [3] [], 0) := by kernel_rfl
theorem ex5 : mup 132 = true := by kernel_rfl
theorem ex6 : mknown 7 = false := by kernel_rfl

theorem at8_marked (w : World) (xs : List Nat) (C : Array Value) (hC : C = (u8s xs).toArray) (fr : Nat × Nat) : At8 (w.alloc (.cells C 5 fr)) (some ⟨w.heap.size, 0, none⟩) xs := by
  intro _
  refine ⟨⟨w.heap.size, 0, none⟩, rfl, fun j v hv => ?_⟩
  have e : (⟨w.heap.size, 0, none⟩ : Addr).add j = ⟨w.heap.size, j, none⟩ := by unfold Addr.add; split <;> simp_all
  rw [e, World.cell?_alloc_mark w C 5 fr j, hC]
  simpa using hv

set_option maxRecDepth 100000 in
set_option maxHeartbeats 8000000 in
theorem awake_any (w : World) (hwd : Wd w) : Calls Tryd.prog 10 #[] w fun e w' => e = .returned (.bool true) ∧ Below w.heap.size w w' := by
  have hb1 : Below w.heap.size w (w.alloc (.cells #[.int .i64 3] 3)) := (Below.refl _ _).alloc (Nat.le_refl _) _
  have HC1 := Lib.hid (omg_encode 16 256 1 77 (some ⟨w.heap.size, 0, none⟩) 1 1 none 0 0 [3] [] (w.alloc (.cells #[.int .i64 3] 3)) (sli_made6 w [3] #[.int .i64 3] rfl (by decide)) (slk_nil6 _) (by omega) (by omega) (fun p h => by cases h) (hwd.under hb1))
  rw [ex1] at HC1
  unfold Bytes0 msgV msgCells at HC1
  have HB1 := Lib.hid hb1; have HWD := Lib.hid (fun W (hW : Below w.heap.size w W) => hwd.under hW)
  clear hb1 hwd
  have hcs := fun (W : World) (C : Array Value) (n c : Nat) => Lib.run_convert_bytes_const (P := Tryd.prog) W 28 5 C n c Tryd.underlying28 Tryd.underlying5
  go_enter Tryd.func10, Tryd.ntmps10
  go_wp2_with fail
  refine HC1.out.mono ?_
  rintro e w1 ⟨A1, c1, rfl, ha1, hc1, hb1⟩
  have hbw1 := HB1.out.trans (hb1.mono HB1.out.size)
  have HC2 := Lib.hid (omg_encode 3 0 0 0 none 0 0 none 0 0 [] [] w1 (sli_nil6 _) (slk_nil6 _) (by omega) (by omega) (fun p h => by cases h) (HWD.out w1 hbw1))
  rw [ex2] at HC2
  unfold Bytes0 msgV msgCells at HC2
  have HA1 := Lib.hid ha1; have HBW1 := Lib.hid hbw1
  clear ha1 hc1 hb1 hbw1 HC1 HB1
  go_wp2_with fail
  refine HC2.out.mono ?_
  rintro e w2 ⟨A2, c2, rfl, ha2, hc2, hb2⟩
  have hbw2 := HBW1.out.trans (hb2.mono HBW1.out.size)
  have HC3 := Lib.hid (omg_encode 16 0 0 0 none 0 0 none 0 0 [] [] w2 (sli_nil6 _) (slk_nil6 _) (by omega) (by omega) (fun p h => by cases h) (HWD.out w2 hbw2))
  rw [ex3] at HC3
  unfold Bytes0 msgV msgCells at HC3
  have HA2 := Lib.hid (at8_low HA1.out hb2); have HBW2 := Lib.hid hbw2
  clear ha2 hc2 hb2 hbw2 HC2 HA1 HBW1
  go_wp2_with fail
  refine HC3.out.mono ?_
  rintro e w3 ⟨A3, c3, rfl, ha3, hc3, hb3⟩
  have hbw3 := HBW2.out.trans (hb3.mono HBW2.out.size)
  have hb34 : Below w3.heap.size w3 (w3.alloc (.cells #[.int .u8 16, .int .u8 2, .int .u8 128, .int .u8 0, .int .u8 0, .int .u8 64, .int .u8 32, .int .u8 0, .int .u8 9, .int .u8 166] 5 (10, 11))) := (Below.refl _ _).alloc (Nat.le_refl _) _
  have hbw4 := hbw3.trans (hb34.mono hbw3.size)
  have HC4 := Lib.hid (omg_decode (some ⟨w3.heap.size, 0, none⟩) 10 [16, 2, 128, 0, 0, 64, 32, 0, 9, 166] _ (at8_marked w3 [16, 2, 128, 0, 0, 64, 32, 0, 9, 166] _ rfl (10, 11)) (by decide) (by decide) (by decide) (HWD.out _ hbw4))
  rw [ex4] at HC4
  unfold DcPost msgV msgCells at HC4
  have HA4 := Lib.hid (at8_low (at8_low HA2.out hb3) hb34); have HBW4 := Lib.hid hbw4
  clear ha3 hc3 hb3 hbw3 hb34 hbw4 HC3 HA2 HBW2
  go_wp2_with fail
  refine HC4.out.mono ?_
  rintro e w5 ⟨id, t, a, o, A5, n5, c5, B5, m5, d5, V, l, rfl, heq, hsv, hsk, hm5, hpn, hb5⟩
  injection heq with h1 h2 h3 h4 h5 h6
  subst h1; subst h2; subst h3; subst h4; subst h5
  have hn5 : n5 = 1 := hsv.len.symm
  subst hn5
  obtain ⟨w6, hw6⟩ : ∃ w6, w5.alloc (.cells #[.int .i64 16, .int .i64 256, .int .i64 1, .int .i64 77, .slice A5 1 c5, .slice B5 m5 d5] 25) = w6 := ⟨_, rfl⟩
  have hb56 : Below w5.heap.size w5 w6 := by rw [← hw6]; exact (Below.refl _ _).alloc (Nat.le_refl _) _
  have hm6 : Has w6 w5.heap.size 25 #[.int .i64 16, .int .i64 256, .int .i64 1, .int .i64 77, .slice A5 1 c5, .slice B5 m5 d5] := by rw [← hw6]; exact Has.made _ _ _
  have ha6 := at8_low (at8_low HA4.out hb5) hb56
  obtain ⟨b0, o0, rfl, k3⟩ := (sln_of (sliUnder hsv hb56)).at_ (j := 0) (by omega)
  have k3 : w6.cell? ⟨b0, o0, none⟩ = some (.int .i64 3) := k3
  have q1 : w6.cell? ⟨w5.heap.size, 1, none⟩ = some (.int .i64 256) := hm6.cell 1
  have q3 : w6.cell? ⟨w5.heap.size, 3, none⟩ = some (.int .i64 77) := hm6.cell 3
  have q4 : w6.cell? ⟨w5.heap.size, 4, none⟩ = some (.slice (some ⟨b0, o0, none⟩) 1 c5) := hm6.cell 4
  have hcv : (convert 28 9 (.slice A1 10 c1)).run Tryd.prog w6 = .ok (.string ⟨#[16, 2, 128, 0, 0, 64, 32, 0, 9, 166]⟩) w6 := conv8 A1 c1 [16, 2, 128, 0, 0, 64, 32, 0, 9, 166] w6 ha6
  have HB6 := Lib.hid (HBW4.out.trans ((hb5.trans (hb56.mono hb5.size)).mono HBW4.out.size))
  have HU := Lib.hid (omg_up 132 w6)
  rw [ex5] at HU
  have HK := Lib.hid (fun W => omg_known 7 W)
  rw [ex6] at HK
  clear hsv hsk hm5 hpn hb5 hb56 hm6 ha6 HC4 HA4 HBW4 h6
  go_wp2_with fail
  refine HU.out.mono ?_
  rintro e w7 ⟨rfl, hb7⟩
  have HB7 := Lib.hid (HB6.out.trans (hb7.mono HB6.out.size))
  clear hb7 HB6 HU
  go_wp2_with fail
  refine (HK.out _).mono ?_
  rintro e w8 ⟨rfl, hb8⟩
  have HB8 := Lib.hid (HB7.out.trans (hb8.mono HB7.out.size))
  clear hb8 HB7 HK
  go_wp2
  go_ret
  exact ⟨rfl, HB8.out⟩
end Go.Proofs.YtamnhnleipnhdaaDoor

/-
  A message that came in: its block and what lies behind it; what its bytes are.
-/
namespace Go.Proofs.YtamnhnleipnhdaaDoor

open Go.RowKit

open BitsM

def MsgCells (W : World) (g : Nat) (id t a o : Int) (A : Option Addr) (n c : Nat) (B : Option Addr) (m d : Nat) : Prop :=
  W.cell? ⟨g, 0, none⟩ = some (.int .i64 id) ∧ W.cell? ⟨g, 1, none⟩ = some (.int .i64 t) ∧ W.cell? ⟨g, 2, none⟩ = some (.int .i64 a) ∧ W.cell? ⟨g, 3, none⟩ = some (.int .i64 o) ∧ W.cell? ⟨g, 4, none⟩ = some (.slice A n c) ∧ W.cell? ⟨g, 5, none⟩ = some (.slice B m d)
theorem msg_open (id t a o : Int) (A : Option Addr) (n c : Nat) (B : Option Addr) (m d : Nat) (V : List Int) (l : List PkE) (w : World) (hV : SlI w.heap.size w A n c V) (hl : SlK w B m d l) (hwd : Wd w) :
    ∃ wa, w.alloc (.cells #[.int .i64 id, .int .i64 t, .int .i64 a, .int .i64 o, .slice A n c, .slice B m d] 25) = wa ∧ Below w.heap.size w wa ∧ w.heap.size < wa.heap.size ∧
    (∀ W, Below wa.heap.size wa W → MsgCells W w.heap.size id t a o A n c B m d) ∧ (∀ W, Below wa.heap.size wa W → SlI W.heap.size W A n c V ∧ SlK W B m d l ∧ Wd W) := by
  obtain ⟨wa, hwa⟩ : ∃ wa, w.alloc (.cells #[.int .i64 id, .int .i64 t, .int .i64 a, .int .i64 o, .slice A n c, .slice B m d] 25) = wa := ⟨_, rfl⟩
  have hba : Below w.heap.size w wa := by rw [← hwa]; exact (Below.refl _ _).alloc (Nat.le_refl _) _
  have hsz : w.heap.size < wa.heap.size := by rw [← hwa]; simp
  refine ⟨wa, hwa, hba, hsz, fun W hW => ?_, fun W hW => ?_⟩
  · have hh : Has wa w.heap.size 25 #[.int .i64 id, .int .i64 t, .int .i64 a, .int .i64 o, .slice A n c, .slice B m d] := by rw [← hwa]; exact Has.made _ _ _
    unfold MsgCells
    rw [hW.cell hsz, hW.cell hsz, hW.cell hsz, hW.cell hsz, hW.cell hsz, hW.cell hsz, hh.cell, hh.cell, hh.cell, hh.cell, hh.cell, hh.cell]
    exact ⟨rfl, rfl, rfl, rfl, rfl, rfl⟩
  · have hb := hba.trans (hW.mono (Nat.le_of_lt hsz))
    exact ⟨sliUnder hV hb, hl.under hb, (hwd.under hba).under hW⟩
theorem light_in {n m : Nat} {l : List PkE} (h : lightF n m l = true) : n ≤ 30 ∧ m ≤ 30 ∧ ∀ p ∈ l, p.n ≤ 3000 := by
  unfold lightF at h
  simp only [Bool.and_eq_true, decide_eq_true_eq, List.all_eq_true] at h
  exact ⟨h.1.1, h.1.2, h.2⟩
theorem enc_small {m : Msg} : (∀ x ∈ (encF m).1, x < 256) ∧ (encF m).1.length ≤ 1023 ∧ ((encF m).2 = 0 → encF m = ((encF m).1, 0)) ∧ ((encF m).2 ≠ 0 → (encF m).1 = []) := by
  by_cases h : (encF m).2 = 0
  · have h2 : encF m = ((encF m).1, 0) := by rw [← h]
    obtain ⟨n, k⟩ := enc_bits h2
    exact ⟨k.lt, by rw [k.len]; exact k.n1023, fun _ => h2, fun e => absurd h e⟩
  · have h2 := enc_none h
    exact ⟨by rw [h2]; intro x hx; simp at hx, by rw [h2]; simp, fun e => absurd e h, fun _ => h2⟩
theorem nodup_short : ∀ (l L : List Int), l.Nodup → (∀ x ∈ l, x ∈ L) → l.length ≤ L.length
  | [], _, _, _ => by simp
  | x :: l, L, hd, hs => by
    rw [List.nodup_cons] at hd
    have hx := hs x (by simp)
    have h := nodup_short l (L.erase x) hd.2 fun y hy => (List.mem_erase_of_ne (fun (e : y = x) => hd.1 (e ▸ hy))).2 (hs y (by simp [hy]))
    rw [List.length_erase_of_mem hx] at h
    have := List.length_pos_of_mem hx
    simp only [List.length_cons]; omega
theorem mayL_short (id : Int) : (mrow id).mayL.length ≤ 7 := by
  have h : mrows.all (fun r => decide (r.mayL.length ≤ 7)) = true := by kernel_rfl
  unfold mrow
  cases hf : mrows.find? (fun r => decide (r.id = id)) with
  | none => exact of_decide_eq_true (by kernel_rfl)
  | some r => exact of_decide_eq_true (List.all_eq_true.1 h r (List.mem_of_find?_eq_some hf))
theorem fits_len {id : Int} {ids : List Int} (h : fitsF id ids = true) : ids.length ≤ 8 := by
  have hm := mayL_short id
  have key : ∀ l, restB (mrow id).mayL l = true → l.length ≤ 7 := fun l hl => by
    unfold restB at hl
    simp only [Bool.and_eq_true, List.all_eq_true, decide_eq_true_eq] at hl
    have := nodup_short l _ hl.2 hl.1
    omega
  unfold fitsF at h
  split at h
  · have := key _ h; omega
  · split at h
    · cases h
    · rw [Bool.and_eq_true] at h
      have := key _ h.2
      simp only [List.length_cons]; omega
theorem dec_fits {xs : List Nat} {m : Msg} (hx : ∀ x ∈ xs, x < 256) (h : decF xs = (m, 0)) : encF m = (xs, 0) ∧ m.P.length ≤ 8 ∧ m.V.length ≤ 30 := by
  have h1 := dec_only hx h
  obtain ⟨k1, k2, _, _, _, k6, _⟩ := enc_fine (m := m) (by rw [h1])
  have h2 := fits_len k6
  rw [List.length_map] at h2
  have h3 := (mshape k1).ownN
  refine ⟨h1, h2, ?_⟩
  have e1 : (mvars m.id).length ≤ 8 := by unfold mvars baseV; rw [List.length_append]; split <;> simp <;> omega
  have e2 : m.V.length ≤ (mvals m).length := by unfold mvals; rw [List.length_append]; omega
  omega
end Go.Proofs.YtamnhnleipnhdaaDoor
