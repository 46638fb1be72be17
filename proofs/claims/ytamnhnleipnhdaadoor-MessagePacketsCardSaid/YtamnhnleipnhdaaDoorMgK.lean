/-
  MgVars, MgNums, MgValid, MgAllow, MgAdd, MgFit, MgBytes: merged.
-/
import Derived.Test.YtamnhnleipnhdaaDoorKdOf
import Derived.Test.YtamnhnleipnhdaaDoorMgJ
import Derived.Test.YtamnhnleipnhdaaDoorMgI
import Derived.Test.YtamnhnleipnhdaaDoorMgC
import Derived.Test.YtamnhnleipnhdaaDoorMsEnc
import Derived.BigQuiet
import Derived.StillTailTactics
import Derived.IntWalk
import Derived.Test.YtamnhnleipnhdaaDoorMgF
import Derived.Test.YtamnhnleipnhdaaDoorMgA
import Derived.Great.Walk

/-
  message.Known, Up, item; a kind's variables; a message's numbers; valid.
-/
namespace Go.Proofs.YtamnhnleipnhdaaDoor

open Go.RowKit

theorem mup_ge {id : Int} (h : mknown id = true) : mup id = decide (129 ≤ id) := by
  unfold mup
  rw [h, Bool.true_and]
  rcases mknown_cases h with rfl | rfl | rfl | rfl | rfl | rfl | rfl | rfl | rfl | rfl | rfl | rfl | rfl | rfl | rfl | rfl | rfl | rfl | rfl | rfl | rfl | rfl | rfl | rfl | rfl | rfl | rfl | rfl | rfl | rfl <;> decide
def varsI (id : Int) : List Int := (mvars id).map fun (v : Nat) => (v : Int)

set_option maxHeartbeats 1000000 in
theorem omg_known (id : Int) (w : World) : Calls Tryd.prog 14 #[.int .i64 id] w fun e w' => e = .returned (.bool (mknown id)) ∧ Below w.heap.size w w' := by
  have HK := Lib.hid (kd_any id w)
  unfold KdPost kdV at HK
  generalize mknown id = k at *
  go_enter Tryd.func14, Tryd.ntmps14
  go_wp2_with fail
  refine HK.out.mono ?_
  rintro e w1 ⟨O, no, co, F, nf, cf, P, np, cp, rfl, _, hb⟩
  have HB := Lib.hid (hb.alloc hb.size (.cells #[.slice O no co, .slice F nf cf, .slice P np cp] 42))
  clear hb HK
  go_wp2
  go_ret
  exact ⟨rfl, HB.out⟩
set_option maxHeartbeats 1000000 in
theorem omg_up (id : Int) (w : World) : Calls Tryd.prog 16 #[.int .i64 id] w fun e w' => e = .returned (.bool (mup id)) ∧ Below w.heap.size w w' := by
  have HK := Lib.hid (omg_known id w)
  have hu : mup id = (if mknown id = true then decide (129 ≤ id) else false) := by
    cases h : mknown id
    · unfold mup; rw [h]; rfl
    · rw [mup_ge h]; rfl
  rw [hu]
  clear hu
  generalize mknown id = k at *
  cases k
  · go_enter Tryd.func16, Tryd.ntmps16
    go_wp2_with fail
    refine HK.out.mono ?_
    rintro e w1 ⟨rfl, hb⟩
    have HB := Lib.hid hb; clear hb
    go_wp2
    go_ret
    exact ⟨rfl, HB.out⟩
  · by_cases h : 129 ≤ id
    · rw [decide_eq_true h]
      go_enter Tryd.func16, Tryd.ntmps16
      go_wp2_with fail
      refine HK.out.mono ?_
      rintro e w1 ⟨rfl, hb⟩
      have HB := Lib.hid hb; clear hb
      go_wp2
      go_ret
      exact ⟨by simp, HB.out⟩
    · rw [decide_eq_false h]
      go_enter Tryd.func16, Tryd.ntmps16
      go_wp2_with fail
      refine HK.out.mono ?_
      rintro e w1 ⟨rfl, hb⟩
      have HB := Lib.hid hb; clear hb
      go_wp2
      go_ret
      exact ⟨by simp; omega, HB.out⟩

set_option maxHeartbeats 1000000 in
theorem omg_item (v n : Int) (w : World) (hwd : Wd w) : Calls Tryd.prog 27 #[.int .i64 v, .int .i64 n] w fun e w' => e = .returned (.agg #[.int .i64 n, .int .i64 (widthOf v : Nat)]) ∧ Below w.heap.size w w' := by
  have hb : Below w.heap.size w (w.alloc (.cells #[.int .i64 0, .int .i64 0] 53)) := (Below.refl _ _).alloc (Nat.le_refl _) _
  have HW := Lib.hid (width_any v (w.alloc (.cells #[.int .i64 0, .int .i64 0] 53)) (hwd.under hb))
  clear hb hwd
  generalize widthOf v = k at *
  go_enter Tryd.func27, Tryd.ntmps27
  go_wp2_with fail
  refine HW.out.mono ?_
  rintro e w1 ⟨rfl, rfl⟩
  go_wp2
  refine bodyPost_ret (results_cell_row rfl _ _ w.heap.size 53 _ _ _ rfl (Has.made w 53 _) Tryd.underlying53 rfl (by kernel_rfl)) rfl ?_
  exact ⟨rfl, (Below.refl _ _).alloc (Nat.le_refl _) _⟩
end Go.Proofs.YtamnhnleipnhdaaDoor

/-
  message: a kind's variables; a message's numbers.
-/
namespace Go.Proofs.YtamnhnleipnhdaaDoor

open Go.RowKit

theorem intsI_one (l : List Int) : ∀ v ∈ intsI l, v.oneCell' = true := ints_one l
theorem sl_none0 {w : World} {A : Option Addr} {n c : Nat} {l : List Int} (h : Sl w 1 A n c (intsI l)) : n = l.length := by have := h.1; simp [intsI] at this; omega

set_option maxRecDepth 100000 in
set_option maxHeartbeats 4000000 in
theorem omg_vars2 (id : Int) (hk : mknown id = true) (O : Option Addr) (no co : Nat) (F : Option Addr) (nf cf : Nat) (P : Option Addr) (np cp : Nat) (w : World) (h : KdAt w O no co F nf cf P np cp (mrow id)) :
    Calls Tryd.prog 23 #[kdV O no co F nf cf P np cp, .int .i64 id] w fun e w' => ∃ A c, e = .returned (.slice A (varsI id).length c) ∧ SlN w' A (varsI id).length c (varsI id) ∧ Below w.heap.size w w' ∧ ∀ a, A = some a → w.heap.size ≤ a.block := by
  have hu := mup_ge hk
  have hon := (mshape hk).ownN
  have hv : varsI id = (if mup id = true then [2, 9] else [2, 3, 4]) ++ ownI (mrow id) := by
    unfold varsI mvars baseV ownI
    rw [List.map_append]
    cases mup id <;> rfl
  have hol : (ownI (mrow id)).length ≤ 5 := by simpa [ownI] using hon
  rw [hu] at hv
  have ho := h.own
  have hno := sl_none0 ho
  rw [hv]
  generalize ownI (mrow id) = Q at *
  have HO := Lib.hid ho; have HNO := Lib.hid hno
  have hnb : no ≤ 100 := by omega
  clear h hv hu hon ho hno
  unfold kdV
  by_cases h : 129 ≤ id
  · rw [if_pos (decide_eq_true h)]
    obtain ⟨T, hT⟩ : ∃ T, [2, 9] ++ Q = T := ⟨_, rfl⟩
    rw [hT]
    have HT := Lib.hid hT; clear hT
    go_enter Tryd.func23, Tryd.ntmps23
    go_wp2_with fail
    refine (concat_anyI _ _ _ [(some ⟨w.heap.size + 1, 0, none⟩, 2, 2, intsI [2, 9]), (O, no, co, intsI Q)] _ ?_ (by decide) ?_).mono ?_
    · refine sl_has (t := 22) ?_ rfl
      refine has_made_at ?_
      simp
    · intro x hx
      simp only [List.mem_cons, List.not_mem_nil, or_false] at hx
      rcases hx with rfl | rfl
      · refine ⟨?_, intsI_one _, by show (_ : Nat) ≤ 100; dsimp only; omega⟩
        refine sl_has (t := 3) ?_ rfl
        refine Has.beside (has_made_at ?_) _
        simp
      · exact ⟨((HO.out.beside _).beside _).beside _, intsI_one _, by show no ≤ 100; omega⟩
    · rintro e w1 ⟨A1, c1, rfl, ho1, hb1⟩
      have e1 : T.length = cntOfI [(some ⟨w.heap.size + 1, 0, none⟩, 2, 2, intsI [2, 9]), (O, no, co, intsI Q)] := by have := HNO.out; rw [← HT.out]; simp [cntOfI]; omega
      have HR : Hid (SlN w1 A1 T.length c1 T) := Lib.hid ⟨rfl, by
        rw [e1]
        have h2 := Sl.of_own ho1
        rw [← HT.out]
        simpa [cellsOfI, ints, intsI] using h2⟩
      have HB : Hid (Below w.heap.size w w1) := Lib.hid (Below.trans ((((Below.refl _ _).alloc (Nat.le_refl _) _).alloc (by simp) _).alloc (by simp; omega) _) (hb1.mono (by simp; omega)))
      have HLO : Hid (∀ a, A1 = some a → w.heap.size ≤ a.block) := Lib.hid (fun a h => by have := (ho1.lt a.block (by rw [h]; rfl)).1; simp at this; omega)
      have HE := Lib.hid e1
      clear ho1 hb1 e1
      go_wp2
      go_ret
      exact ⟨A1, c1, by rw [HE.out]; rfl, HR.out, HB.out, HLO.out⟩
  · rw [if_neg (by simpa using h)]
    obtain ⟨T, hT⟩ : ∃ T, [2, 3, 4] ++ Q = T := ⟨_, rfl⟩
    rw [hT]
    have HT := Lib.hid hT; clear hT
    go_enter Tryd.func23, Tryd.ntmps23
    go_wp2_with fail
    refine (concat_anyI _ _ _ [(some ⟨w.heap.size + 1, 0, none⟩, 3, 3, intsI [2, 3, 4]), (O, no, co, intsI Q)] _ ?_ (by decide) ?_).mono ?_
    · refine sl_has (t := 22) ?_ rfl
      refine has_made_at ?_
      simp
    · intro x hx
      simp only [List.mem_cons, List.not_mem_nil, or_false] at hx
      rcases hx with rfl | rfl
      · refine ⟨?_, intsI_one _, by show (_ : Nat) ≤ 100; dsimp only; omega⟩
        refine sl_has (t := 3) ?_ rfl
        refine Has.beside (has_made_at ?_) _
        simp
      · exact ⟨((HO.out.beside _).beside _).beside _, intsI_one _, by show no ≤ 100; omega⟩
    · rintro e w1 ⟨A1, c1, rfl, ho1, hb1⟩
      have e1 : T.length = cntOfI [(some ⟨w.heap.size + 1, 0, none⟩, 3, 3, intsI [2, 3, 4]), (O, no, co, intsI Q)] := by have := HNO.out; rw [← HT.out]; simp [cntOfI]; omega
      have HR : Hid (SlN w1 A1 T.length c1 T) := Lib.hid ⟨rfl, by
        rw [e1]
        have h2 := Sl.of_own ho1
        rw [← HT.out]
        simpa [cellsOfI, ints, intsI] using h2⟩
      have HB : Hid (Below w.heap.size w w1) := Lib.hid (Below.trans ((((Below.refl _ _).alloc (Nat.le_refl _) _).alloc (by simp) _).alloc (by simp; omega) _) (hb1.mono (by simp; omega)))
      have HLO : Hid (∀ a, A1 = some a → w.heap.size ≤ a.block) := Lib.hid (fun a h => by have := (ho1.lt a.block (by rw [h]; rfl)).1; simp at this; omega)
      have HE := Lib.hid e1
      clear ho1 hb1 e1
      go_wp2
      go_ret
      exact ⟨A1, c1, by rw [HE.out]; rfl, HR.out, HB.out, HLO.out⟩

theorem omg_vars (id : Int) (hk : mknown id = true) (O : Option Addr) (no co : Nat) (F : Option Addr) (nf cf : Nat) (P : Option Addr) (np cp : Nat) (w : World) (h : KdAt w O no co F nf cf P np cp (mrow id)) :
    Calls Tryd.prog 23 #[kdV O no co F nf cf P np cp, .int .i64 id] w fun e w' => ∃ A c, e = .returned (.slice A (varsI id).length c) ∧ SlN w' A (varsI id).length c (varsI id) ∧ Below w.heap.size w w' :=
  (omg_vars2 id hk O no co F nf cf P np cp w h).mono fun _ _ ⟨A, c, h1, h2, h3, _⟩ => ⟨A, c, h1, h2, h3⟩

set_option maxRecDepth 100000 in
set_option maxHeartbeats 4000000 in
theorem omg_nums (id t a o : Int) (A : Option Addr) (n c : Nat) (B : Option Addr) (m d : Nat) (V : List Int) (w : World) (hV : SlN w A n c V) (hn : n ≤ 100) :
    Calls Tryd.prog 24 #[msgV id t a o A n c B m d] w fun e w' => ∃ A' c', e = .returned (.slice A' (valsL (mup id) t a o V).length c') ∧ SlN w' A' (valsL (mup id) t a o V).length c' (valsL (mup id) t a o V) ∧ Below w.heap.size w w' := by
  have hu := fun W => omg_up id W
  have HVL := Lib.hid hV.len
  generalize mup id = u at *
  have HU := Lib.hid hu
  clear hu
  obtain ⟨T, hT⟩ : ∃ T, valsL u t a o V = T := ⟨_, rfl⟩
  rw [hT]
  have HT := Lib.hid hT; clear hT
  obtain ⟨w0, hw0⟩ : ∃ w0, w.alloc (.cells #[.int .i64 id, .int .i64 t, .int .i64 a, .int .i64 o, .slice A n c, .slice B m d] 25) = w0 := ⟨_, rfl⟩
  have hb0 : Below w.heap.size w w0 := by rw [← hw0]; exact (Below.refl _ _).alloc (Nat.le_refl _) _
  have hsz : w.heap.size < w0.heap.size := by rw [← hw0]; simp
  have hh : Has w0 w.heap.size 25 #[.int .i64 id, .int .i64 t, .int .i64 a, .int .i64 o, .slice A n c, .slice B m d] := by rw [← hw0]; exact Has.made _ _ _
  have HB0 := Lib.hid hb0
  have HC := Lib.hid (fun W (hW : Below w0.heap.size w0 W) (i : Nat) => (hh.under hW hsz).cell i)
  have HV := Lib.hid (fun W (hW : Below w.heap.size w W) => hV.under hW)
  have k0 : w0.cell? ⟨w.heap.size, 0, none⟩ = some (.int .i64 id) := by rw [hh.cell]; rfl
  clear hh hb0 hV
  unfold msgV msgCells
  go_enter Tryd.func24, Tryd.ntmps24
  go_wp2_with fail
  refine (HU.out _).mono ?_
  rintro e w1 ⟨rfl, hb1⟩
  have HB1 := Lib.hid (HB0.out.trans (hb1.mono HB0.out.size))
  have HS1 := Lib.hid (Nat.lt_of_lt_of_le hsz hb1.size)
  obtain ⟨q1, q2, q3, q4⟩ : w1.cell? ⟨w.heap.size, 1, none⟩ = some (.int .i64 t) ∧ w1.cell? ⟨w.heap.size, 2, none⟩ = some (.int .i64 a) ∧ w1.cell? ⟨w.heap.size, 3, none⟩ = some (.int .i64 o) ∧ w1.cell? ⟨w.heap.size, 4, none⟩ = some (.slice A n c) :=
    ⟨HC.out w1 hb1 1, HC.out w1 hb1 2, HC.out w1 hb1 3, HC.out w1 hb1 4⟩
  have HC1 := Lib.hid (fun (o : Obj) => HC.out (w1.alloc o) (hb1.trans ((Below.refl w1.heap.size w1).alloc (Nat.le_refl _) o |>.mono hb1.size)))
  clear hb1 hw0 HB0 k0 HU
  cases u
  · have q5 := HC1.out (.cells #[.int .i64 t, .int .i64 a, .int .i64 o] 3) 4
    have q5 : (w1.alloc (.cells #[.int .i64 t, .int .i64 a, .int .i64 o] 3)).cell? ⟨w.heap.size, 4, none⟩ = some (.slice A n c) := q5
    go_wp2_with fail
    refine (concat_anyI _ _ _ [(some ⟨w1.heap.size, 0, none⟩, 3, 3, intsI [t, a, o]), (A, n, c, intsI V)] _ ?_ (by decide) ?_).mono ?_
    · refine sl_has (t := 22) ?_ rfl
      refine has_made_at ?_
      simp
    · intro x hx
      simp only [List.mem_cons, List.not_mem_nil, or_false] at hx
      rcases hx with rfl | rfl
      · refine ⟨?_, intsI_one _, by show (_ : Nat) ≤ 100; dsimp only; omega⟩
        refine sl_has (t := 3) ?_ rfl
        refine Has.beside (has_made_at ?_) _
        simp
      · exact ⟨((HV.out w1 HB1.out).sl.beside _).beside _, intsI_one _, by show n ≤ 100; omega⟩
    · rintro e w2 ⟨A2, c2, rfl, ho2, hb2⟩
      have e1 : T.length = cntOfI [(some ⟨w1.heap.size, 0, none⟩, 3, 3, intsI [t, a, o]), (A, n, c, intsI V)] := by rw [← HT.out]; simp [cntOfI, valsL, HVL.out]; omega
      have HR : Hid (SlN w2 A2 T.length c2 T) := Lib.hid ⟨rfl, by
        rw [e1]
        have h2 := Sl.of_own ho2
        rw [← HT.out]
        simpa [cellsOfI, ints, intsI, valsL] using h2⟩
      have HB : Hid (Below w.heap.size w w2) := Lib.hid (Below.trans ((HB1.out.alloc HB1.out.size _).alloc (by have := HB1.out.size; simp; omega) _) (hb2.mono (by have := HB1.out.size; simp; omega)))
      have HE := Lib.hid e1
      clear ho2 hb2 e1
      go_wp2
      go_ret
      exact ⟨A2, c2, by rw [HE.out]; rfl, HR.out, HB.out⟩
  · have q5 := HC1.out (.cells #[.int .i64 t, .int .i64 o] 3) 4
    have q5 : (w1.alloc (.cells #[.int .i64 t, .int .i64 o] 3)).cell? ⟨w.heap.size, 4, none⟩ = some (.slice A n c) := q5
    go_wp2_with fail
    refine (concat_anyI _ _ _ [(some ⟨w1.heap.size, 0, none⟩, 2, 2, intsI [t, o]), (A, n, c, intsI V)] _ ?_ (by decide) ?_).mono ?_
    · refine sl_has (t := 22) ?_ rfl
      refine has_made_at ?_
      simp
    · intro x hx
      simp only [List.mem_cons, List.not_mem_nil, or_false] at hx
      rcases hx with rfl | rfl
      · refine ⟨?_, intsI_one _, by show (_ : Nat) ≤ 100; dsimp only; omega⟩
        refine sl_has (t := 3) ?_ rfl
        refine Has.beside (has_made_at ?_) _
        simp
      · exact ⟨((HV.out w1 HB1.out).sl.beside _).beside _, intsI_one _, by show n ≤ 100; omega⟩
    · rintro e w2 ⟨A2, c2, rfl, ho2, hb2⟩
      have e1 : T.length = cntOfI [(some ⟨w1.heap.size, 0, none⟩, 2, 2, intsI [t, o]), (A, n, c, intsI V)] := by rw [← HT.out]; simp [cntOfI, valsL, HVL.out]; omega
      have HR : Hid (SlN w2 A2 T.length c2 T) := Lib.hid ⟨rfl, by
        rw [e1]
        have h2 := Sl.of_own ho2
        rw [← HT.out]
        simpa [cellsOfI, ints, intsI, valsL] using h2⟩
      have HB : Hid (Below w.heap.size w w2) := Lib.hid (Below.trans ((HB1.out.alloc HB1.out.size _).alloc (by have := HB1.out.size; simp; omega) _) (hb2.mono (by have := HB1.out.size; simp; omega)))
      have HE := Lib.hid e1
      clear ho2 hb2 e1
      go_wp2
      go_ret
      exact ⟨A2, c2, by rw [HE.out]; rfl, HR.out, HB.out⟩
end Go.Proofs.YtamnhnleipnhdaaDoor

/-
  message.valid.
-/
namespace Go.Proofs.YtamnhnleipnhdaaDoor

open Go.RowKit

def natI (L : List Nat) : List Int := L.map fun (v : Nat) => (v : Int)

set_option maxRecDepth 100000 in
set_option maxHeartbeats 2000000 in
theorem omg_valid (A : Option Addr) (n c : Nat) (L : List Nat) (B : Option Addr) (m d : Nat) (N : List Int) (w : World) (hL : SlN w A n c (natI L)) (hN : SlN w B m d N) (hn : n ≤ 1000) (hm : m ≤ 1000) (hwd : Wd w) :
    Calls Tryd.prog 25 #[.slice A n c, .slice B m d] w fun e w' => e = .returned (.bool (decide (L.length = N.length) && maysOf L N)) ∧ w = w' := by
  have hln : L.length = n := by have := hL.len; simpa [natI] using this
  have hlm := hN.len
  rw [hln, hlm]
  obtain ⟨T, hT⟩ : ∃ T, (decide (n = m) && maysOf L N) = T := ⟨_, rfl⟩
  rw [hT]
  have HT := Lib.hid hT
  have HMA := Lib.hid (fun v n => may_var v n w hwd)
  have HL := Lib.hid hL; have HN := Lib.hid hN; have HLN := Lib.hid hln; have HLM := Lib.hid hlm
  clear hT hL hN hwd hln hlm
  by_cases h : n = m
  · subst h
    have hTT : maysOf L N = T := by have := HT.out; rwa [decide_eq_true rfl, Bool.true_and] at this
    have HTT := Lib.hid hTT; clear hTT HT
    have x0 : ((n : Int) != (n : Int)) = false := by simp
    go_enter Tryd.func25, Tryd.ntmps25
    go_wp2
    go_loop [14] (fun i => ∃ j : Nat, j ≤ n ∧ i = .int .i64 j ∧ maysOf (L.take j) (N.take j) = true) (fun i => n - (intOf i).toNat)
    case atStart => exact ⟨0, by omega, rfl, rfl⟩
    case round =>
      obtain ⟨j, hj, rfl, hok⟩ := hrel
      have HOK := Lib.hid hok; clear hok
      by_cases hlt : j < n
      · have hl1 : j < L.length := by have := HLN.out; omega
        have hl2 : j < N.length := by have := HLM.out; omega
        obtain ⟨b0, o0, rfl, c0⟩ := HL.out.at_ (j := j) hlt
        obtain ⟨b1, o1, rfl, c1⟩ := HN.out.at_ (j := j) hlt
        have hpt := (pairs_take hl1 hl2).2
        rw [HOK.out, Bool.true_and] at hpt
        have hpre : maysOf L N = true → maysOf (L.take (j + 1)) (N.take (j + 1)) = true := fun h => mays_pre (j + 1) h
        have e0 : (natI L).getD j 0 = ((L[j] : Nat) : Int) := by simp [natI, hl1, List.getD_eq_getElem?_getD]
        have e1 : N.getD j 0 = N[j] := by simp [hl2, List.getD_eq_getElem?_getD]
        rw [e0] at c0
        rw [e1] at c1
        rw [hpt, HTT.out] at hpre
        generalize L[j] = v at *
        generalize N[j] = x at *
        have HPT := Lib.hid hpt; have HPR := Lib.hid hpre
        have HM1 := Lib.hid (HMA.out v x)
        clear hpt hpre hl1 hl2 e0 e1
        generalize mayOf v x = q at *
        have x1 : (0 : Int) ≤ j := by omega
        have x2 : (j : Int) < n := by omega
        cases q
        · obtain rfl : T = false := by cases T; rfl; exact absurd (HPR.out rfl) (by decide)
          go_wp2_with fail
          refine HM1.out.mono ?_
          rintro e w1 ⟨rfl, rfl⟩
          go_wp2
          go_ret
          exact ⟨rfl, rfl⟩
        · go_wp2_with fail
          refine HM1.out.mono ?_
          rintro e w1 ⟨rfl, rfl⟩
          go_wp2
          go_round
          case rel => exact ⟨j + 1, by omega, by go_num, HPT.out⟩
          case measure => simp [intOf]; omega
      · obtain rfl : j = n := by omega
        have e1 : L.take j = L := List.take_of_length_le (by have := HLN.out; omega)
        have e2 : N.take j = N := List.take_of_length_le (by have := HLM.out; omega)
        have hok := HOK.out
        rw [e1, e2, HTT.out] at hok
        subst hok
        clear e1 e2
        go_wp2
        go_ret
        exact ⟨rfl, rfl⟩
  · obtain rfl : T = false := by have := HT.out; rw [decide_eq_false h] at this; exact this.symm
    have x0 : ((n : Int) != (m : Int)) = true := by simp; omega
    clear h
    go_enter Tryd.func25, Tryd.ntmps25
    go_wp2
    go_ret
    exact ⟨rfl, rfl⟩
end Go.Proofs.YtamnhnleipnhdaaDoor

/-
  message: may a kind have these packets?
-/
namespace Go.Proofs.YtamnhnleipnhdaaDoor

open Go.RowKit

theorem rest_snoc (M L : List Int) (x : Int) : restB M (L ++ [x]) = (restB M L && decide (x ∈ M) && decide (x ∉ L)) := by
  unfold restB
  rw [List.all_append]
  by_cases h : x ∈ L
  · have h1 : ¬ (L ++ [x]).Nodup := fun hd => (List.nodup_append.1 hd).2.2 x h x (by simp) rfl
    rw [decide_eq_false h1, decide_eq_false (show ¬ (x ∉ L) from fun k => k h)]; simp
  · have h1 : (L ++ [x]).Nodup ↔ L.Nodup := by
      rw [List.nodup_append]
      constructor
      · exact fun k => k.1
      · exact fun k => ⟨k, by simp, fun a ha b hb e => by simp at hb; subst hb; subst e; exact h ha⟩
    rw [decide_eq_true h, Bool.and_true]
    by_cases hN : L.Nodup
    · rw [decide_eq_true (h1.2 hN), decide_eq_true hN]
      simp
    · rw [decide_eq_false (fun k => hN (h1.1 k)), decide_eq_false hN]
      simp
theorem rest_pre {M L : List Int} (n : Nat) (h : restB M L = true) : restB M (L.take n) = true := by
  unfold restB at h ⊢
  simp only [Bool.and_eq_true, List.all_eq_true, decide_eq_true_eq] at h ⊢
  exact ⟨fun x hx => h.1 x (List.mem_of_mem_take hx), (List.take_sublist n L).nodup h.2⟩

theorem cut_fromK {P : Program} (s : Nat) (t e : TypeId) (h : P.underlying t = some (.slice e)) (hs : (P.info? e).map (·.size) = some s) (A : Option Addr) (n c p : Nat) (hp : p ≤ n) (w : World) :
    (Instr.sliceAt t (.slice A n c) (some (.int .i64 (p : Nat))) none none).run P w = .ok (.slice (if c = p then A else A.map (·.add (p * s))) (n - p) (c - p)) w := by
  have e1 : (sizeOf e).run P w = .ok s w := by
    cases hi : P.info? e with
    | none => rw [hi] at hs; cases hs
    | some i =>
      rw [hi] at hs
      simp only [Option.map_some, Option.some.injEq] at hs
      simp [sizeOf, run_typeInfo _ hi, hs]
  have h0 : (0 : Int) ≤ (p : Nat) := by omega
  have h1 : ((p : Nat) : Int) ≤ (n : Nat) := by omega
  simp [Instr.sliceAt, Instr.slice, run_underlying h, Instr.sliceBounds, run_sliceBound, h0, h1, e1]
theorem Sl.fromK {w : World} {s : Nat} {A : Option Addr} {n c : Nat} {vs : List Value} (h : Sl w s A n c vs) (hc : n ≤ c) {p : Nat} (hp : p ≤ n) : Sl w s (if c = p then A else A.map (·.add (p * s))) (n - p) (c - p) (vs.drop (p * s)) := by
  have hl : vs.length = n * s := h.1
  refine ⟨by rw [List.length_drop, hl, Nat.sub_mul], fun e => ?_, fun ad ha j u hu => ?_⟩
  · cases A with
    | none => have := h.2.1 rfl; omega
    | some a =>
      rw [Option.map_some] at e
      split at e <;> cases e
  · have hj : p * s + j < n * s := by
      have := (List.getElem?_eq_some_iff.1 hu).1
      rw [List.length_drop] at this
      omega
    rw [List.getElem?_drop] at hu
    have hcp : c ≠ p := fun e => by
      have : n * s ≤ p * s := Nat.mul_le_mul_right s (by omega)
      omega
    rw [if_neg hcp] at ha
    cases A with
    | none => cases ha
    | some a =>
      rw [Option.map_some] at ha
      injection ha with ha
      subst ha
      have h0 := h.2.2 a rfl (p * s + j) u hu
      have e : (a.add (p * s)).add j = a.add (p * s + j) := by
        unfold Addr.add
        by_cases h1 : p * s = 0
        · rw [h1]; simp
        · by_cases h2 : j = 0
          · subst h2; simp [h1]
          · simp [h1, h2, Nat.add_assoc]
      rw [e]
      exact h0
theorem SlK.tail {w : World} {A : Option Addr} {m c : Nat} {a : PkE} {l : List PkE} (h : SlK w A m c (a :: l)) : SlK w (if c = 1 then A else A.map (·.add (1 * 2))) (m - 1) (c - 1) l := by
  have hl := h.len
  simp only [List.length_cons] at hl
  refine ⟨by omega, by have := h.cap; omega, ?_, fun p hp => h.each p (by simp [hp])⟩
  exact h.sl.fromK h.cap (p := 1) (by omega)
theorem first_must {k : Nat} (h : k = 1 ∨ k = 2) (p : Int) : mustB k p = decide (p ∈ firstL k) := by
  unfold mustB firstL
  rcases h with rfl | rfl <;> simp
theorem info_pk : (Tryd.prog.info? 39).map (·.size) = some 2 := by kernel_rfl

set_option maxRecDepth 100000 in
set_option maxHeartbeats 8000000 in
theorem omg_allows (id : Int) (hk : mknown id = true) (O : Option Addr) (no co : Nat) (F : Option Addr) (nf cf : Nat) (P : Option Addr) (np cp : Nat) (A : Option Addr) (m c : Nat) (l : List PkE) (w : World) (h : KdAt w O no co F nf cf P np cp (mrow id)) (hl : SlK w A m c l) (hm : m ≤ 10000) :
    Calls Tryd.prog 29 #[kdV O no co F nf cf P np cp, .slice A m c] w fun e w' => e = .returned (.bool (fitsF id (pkIds l))) ∧ Below w.heap.size w w' := by
  obtain ⟨T, hT⟩ : ∃ T, fitsF id (pkIds l) = T := ⟨_, rfl⟩
  rw [hT]
  unfold fitsF at hT
  have hsh := mshape hk
  obtain ⟨hkd, _, _⟩ := hsh.kd
  have hmay := h.may; have hfst := h.first
  have hnp := sl_none0 hmay
  have hnf := sl_none0 hfst
  have hnpb : np ≤ 1000 := by
    rw [hnp]
    rcases mknown_cases hk with rfl | rfl | rfl | rfl | rfl | rfl | rfl | rfl | rfl | rfl | rfl | rfl | rfl | rfl | rfl | rfl | rfl | rfl | rfl | rfl | rfl | rfl | rfl | rfl | rfl | rfl | rfl | rfl | rfl | rfl <;> exact Nat.le_of_ble_eq_true (by kernel_rfl)
  generalize (mrow id).mayL = M at *
  generalize (mrow id).kd = k at *
  have HT := Lib.hid hT
  obtain ⟨w0, hw0⟩ : ∃ w0, w.alloc (.cells #[.slice O no co, .slice F nf cf, .slice P np cp] 42) = w0 := ⟨_, rfl⟩
  have hb0 : Below w.heap.size w w0 := by rw [← hw0]; exact (Below.refl _ _).alloc (Nat.le_refl _) _
  have hsz : w.heap.size < w0.heap.size := by rw [← hw0]; simp
  have hh : Has w0 w.heap.size 42 #[.slice O no co, .slice F nf cf, .slice P np cp] := by rw [← hw0]; exact Has.made _ _ _
  have HB0 := Lib.hid hb0
  have HC := Lib.hid (fun W (hW : Below w0.heap.size w0 W) => (show W.cell? ⟨w.heap.size, 2, none⟩ = some (.slice P np cp) from (hh.under hW hsz).cell 2))
  have k1 : w0.cell? ⟨w.heap.size, 1, none⟩ = some (.slice F nf cf) := hh.cell 1
  have HMAY := Lib.hid (hmay.under hb0)
  have HFST := Lib.hid (hfst.under hb0)
  have HL := Lib.hid (hl.under hb0)
  have HNF := Lib.hid hnf; have HKD := Lib.hid hkd
  clear hT hsh h hmay hfst hnp hl hb0 hh hnf hkd hk
  unfold kdV
  go_enter Tryd.func29, Tryd.ntmps29
  go_upto_if 11 with fail
  go_cut [1] (fun s wc => ∃ A' m' c' l', s = .slice A' m' c' ∧ m' ≤ m ∧ SlK w0 A' m' c' l' ∧ T = restB M (pkIds l') ∧ ∃ nd, wc = w0.drewN nd)
  case first =>
    by_cases h0 : k = 0
    · obtain rfl : T = restB M (pkIds l) := by have := HT.out; rw [if_pos h0] at this; exact this.symm
      have hf0 : nf = 0 := by have := HNF.out; rw [h0] at this; simpa [firstL] using this
      have y0 : ¬ (0 : Int) < (nf : Int) := by omega
      clear h0 HT hf0
      go_wp2_with fail
      go_meet
      exact ⟨A, m, c, l, rfl, Nat.le_refl _, HL.out, rfl, 0, rfl⟩
    · have hk12 : k = 1 ∨ k = 2 := by have := HKD.out; omega
      have y0 : (0 : Int) < (nf : Int) := by
        have := HNF.out
        unfold firstL at this
        rw [if_neg h0] at this
        split at this <;> simp at this <;> omega
      have HT1 := HT.out
      rw [if_neg h0] at HT1
      clear h0 HT
      cases l with
      | nil =>
        obtain rfl : m = 0 := by have := HL.out.len; simpa using this.symm
        obtain rfl : T = false := HT1.symm
        go_wp2_with fail
        go_quiet (fail)
        go_wp2
        go_ret
        exact ⟨rfl, below_draws HB0.out nq⟩
      | cons a t =>
        have HT2 : (mustB k a.id && restB M (pkIds t)) = T := HT1
        rw [first_must hk12] at HT2
        have HT3 := Lib.hid HT2
        clear HT1 HT2
        have hlen := HL.out.len
        simp only [List.length_cons] at hlen
        obtain ⟨b0, o0, rfl, hc, _⟩ := HL.out.at_ (j := 0) (by simp)
        have hc : w0.cell? ⟨b0, o0, none⟩ = some (.int .i64 a.id) := by simpa using hc
        have hTL := HL.out.tail
        have hCU := fun W => cut_fromK (P := Tryd.prog) 2 23 39 Tryd.underlying23 info_pk (some ⟨b0, o0, none⟩) m c 1 (by omega) W
        obtain ⟨X, hX⟩ : ∃ X, (if c = 1 then (some ⟨b0, o0, none⟩ : Option Addr) else (some ⟨b0, o0, none⟩ : Option Addr).map (·.add (1 * 2))) = X := ⟨_, rfl⟩
        rw [hX] at hTL
        simp only [hX] at hCU
        have HTL := Lib.hid hTL
        have hCON := fun W (hW : ∃ q, W = w0.drewN q) => contains_anyI F nf cf (firstL k) a.id W (by obtain ⟨q, rfl⟩ := hW; exact HFST.out.draws q) (by have := HNF.out; unfold firstL at this; split at this <;> (try split at this) <;> simp at this <;> omega)
        generalize a.id = x at *
        generalize decide (x ∈ firstL k) = q at *
        have HCON := Lib.hid hCON
        have hCU1 : ∀ W, (Instr.sliceAt 23 (.slice (some ⟨b0, o0, none⟩) m c) (some (.int .i64 1)) none none).run Tryd.prog W = .ok (.slice X (m - 1) (c - 1)) W := fun W => hCU W
        clear hTL hX hCU hCON
        have y1 : ((m : Int) == 0) = false := by rw [beq_eq_false_iff_ne]; omega
        have y2 : (0 : Int) < (m : Int) := by omega
        have y3 : 0 < m := by omega
        have hm1 : m - 1 ≤ m := by omega
        clear hlen
        cases q
        · obtain rfl : T = false := by have := HT3.out; simpa using this.symm
          go_wp2_with fail
          go_quiet ((go_at_call 61; exact Calls.quiet_of_same ((HCON.out _ ⟨_, rfl⟩).mono fun _ _ h => ⟨h.1, h.2.symm⟩)))
          go_wp2
          go_ret
          exact ⟨rfl, below_draws HB0.out nq⟩
        · go_wp2_with fail
          go_quiet ((go_at_call 61; exact Calls.quiet_of_same ((HCON.out _ ⟨_, rfl⟩).mono fun _ _ h => ⟨h.1, h.2.symm⟩)))
          go_wp2
          go_meet
          exact ⟨X, m - 1, c - 1, t, rfl, hm1, HTL.out, by have := HT3.out; simpa using this.symm, nq, rfl⟩
  case rest =>
    obtain ⟨A', m', c', l', rfl, hm', hsk, hTr, nd, rfl⟩ := hcut
    have hlen := hsk.len
    obtain ⟨wc, hwc⟩ : ∃ wc, w0.drewN nd = wc := ⟨_, rfl⟩
    have hbc : Below w0.heap.size w0 wc := by rw [← hwc]; exact below_draws (Below.refl _ _) nd
    rw [hwc]
    have HBC := Lib.hid hbc
    have HSK := Lib.hid (hsk.under hbc); have HTR := Lib.hid hTr
    have HMC := Lib.hid (HMAY.out.under hbc)
    have HCC := Lib.hid (fun W (hW : Below wc.heap.size wc W) => HC.out W (hbc.trans (hW.mono hbc.size)))
    have hDl : (pkIds l').length = m' := by simp [pkIds, hlen]
    have HDA : Hid (∀ t (h : t < l'.length), (pkIds l')[t]? = some (l'[t]).id) := Lib.hid (fun t h => by simp [pkIds, h])
    have HWS : Hid (w.heap.size < wc.heap.size) := Lib.hid (Nat.lt_of_lt_of_le hsz hbc.size)
    clear hsk hTr hbc hwc HC HT HL HFST HMAY k1 hw0 hsz HNF HKD
    have HDL := Lib.hid hDl; clear hDl
    generalize pkIds l' = D at *
    go_wp2
    go_loopw [5, 29] (fun s i wr => ∃ (j : Nat) (A5 : Option Addr) (c5 : Nat), j ≤ m' ∧ i = .int .i64 (j : Nat) ∧ s = .slice A5 j c5 ∧ restB M (D.take j) = true ∧ wr.ownsRow wc.heap.size 3 1 (.slice A5 j c5) j (ints (D.take j)) ∧ Below wc.heap.size wc wr) (fun _ i _ => m' - (intOf i).toNat)
    case atStart => exact ⟨0, none, 0, by omega, rfl, rfl, rfl, World.ownsRow_nil _ _ _ _, Below.refl _ _⟩
    case round =>
      obtain ⟨j, A5, c5, hj, rfl, rfl, hok, ho, hb⟩ := hrel
      have HOK := Lib.hid hok; have HO := Lib.hid ho; have HB := Lib.hid hb
      have hwcr := hb.size
      clear hok ho hb
      by_cases hlt : j < m'
      · have hjl : j < l'.length := by omega
        obtain ⟨b0, o0, rfl, f0, f1⟩ := (HSK.out.under HB.out).at_ hjl
        have hx := HDA.out j hjl
        have hsn := rest_snoc M (D.take j) (l'[j]).id
        have htk := take_at hx
        rw [HOK.out, ← htk, Bool.true_and] at hsn
        generalize l'[j] = X at *
        obtain ⟨x, xA, xn, xc, xV⟩ := X
        simp only at f0 f1 hx hsn htk
        have HSN := Lib.hid hsn; have HTK := Lib.hid htk
        have hbw : Below wc.heap.size wc (wr.alloc (.cells #[.int .i64 x, .slice xA xn xc] 39)) := HB.out.alloc hwcr _
        have hcp := HCC.out _ hbw
        have HCO := Lib.hid (contains_anyI P np cp M x _ (HMC.out.under hbw) (by omega))
        have hos := (own_under HO.out ((Below.refl wr.heap.size wr).alloc (Nat.le_refl _) (.cells #[.int .i64 x, .slice xA xn xc] 39)) (Nat.le_refl _))
        have HCS := Lib.hid (contains_anyI A5 j c5 (D.take j) x _ (Sl.of_own hos) (by omega))
        have HO2 := Lib.hid hos; have HBW := Lib.hid hbw
        have hwcr2 : wc.heap.size ≤ (wr.alloc (.cells #[.int .i64 x, .slice xA xn xc] 39)).heap.size := hbw.size
        have HXC : Hid ((wr.alloc (.cells #[.int .i64 x, .slice xA xn xc] 39)).cell? ⟨wr.heap.size, 0, none⟩ = some (.int .i64 x)) := Lib.hid ((Has.made wr 39 _).cell 0)
        clear hsn htk hx hjl hbw hos HO
        have x0 : (0 : Int) ≤ j := by omega
        have x1 : (j : Int) < m' := by omega
        obtain ⟨q1, hq1⟩ : ∃ q1, decide (x ∈ M) = q1 := ⟨_, rfl⟩
        obtain ⟨q2, hq2⟩ : ∃ q2, decide (x ∈ D.take j) = q2 := ⟨_, rfl⟩
        rw [hq1] at HCO; rw [hq2] at HCS
        have hsn2 : restB M (D.take (j + 1)) = (q1 && !q2) := by rw [HSN.out, hq1, ← hq2]; simp
        have HSN2 := Lib.hid hsn2
        have HTF : Hid ((q1 && !q2) = false → T = false) := Lib.hid (fun h => by
          rw [HTR.out]
          cases hd : restB M D
          · rfl
          · have h1 := rest_pre (j + 1) hd
            rw [hsn2, h] at h1
            cases h1)
        clear hq1 hq2 hsn2 HSN
        cases q1
        · obtain rfl : T = false := HTF.out rfl
          have HBF := Lib.hid (HB0.out.trans ((HBC.out.trans (HBW.out.mono HBC.out.size)).mono HB0.out.size))
          go_wp2_with fail
          refine HCO.out.mono ?_
          rintro e w3 ⟨rfl, rfl⟩
          go_wp2
          go_ret
          exact ⟨rfl, HBF.out⟩
        · go_wp2_with fail
          refine HCO.out.mono ?_
          rintro e w3 ⟨rfl, rfl⟩
          go_wp2_with fail
          refine HCS.out.mono ?_
          rintro e w3 ⟨rfl, rfl⟩
          cases q2
          · obtain ⟨w4, hw4⟩ : ∃ w4, wr.alloc (.cells #[.int .i64 x, .slice xA xn xc] 39) = w4 := ⟨_, rfl⟩
            rw [hw4] at HO2 HBW hwcr2 HXC ⊢
            have k4 : w4.cell? ⟨wr.heap.size, 0, none⟩ = some (.int .i64 x) := HXC.out
            clear hw4 HCO HCS f0 f1
            have HBD : Hid (j + 1 ≤ maxLen ∧ (j + 1) * 8 ≤ 140737488355328 ∧ wc.heap.size ≤ (w4.alloc (.cells #[.int .i64 x] 3)).heap.size) := Lib.hid ⟨by unfold maxLen; omega, by omega, by simp; omega⟩
            have HO3 : Hid ((w4.alloc (.cells #[.int .i64 x] 3)).ownsRow wc.heap.size 3 1 (.slice A5 j c5) j (ints (D.take j))) := Lib.hid (HO2.out.alloc _)
            have HBX : Hid (Below wc.heap.size wc (w4.alloc (.cells #[.int .i64 x] 3))) := Lib.hid (HBW.out.alloc hwcr2 _)
            have HNW := cell_news w4 #[.int .i64 x] 3 [.int .i64 x] rfl
            have H1C : Hid (∀ u ∈ ([.int .i64 x] : List Value), u.oneCell' = true) := Lib.hid (fun u hu => by simp at hu; subst hu; rfl)
            go_wp2_with (with_reducible refine wpList_push (o := ⟨some 49, _, _, _, _, _⟩) rfl (.tmp 45) (.tmp 48) 22 rfl wc.heap.size 3 (.int .i64 0) 1 8 Tryd.underlying22 info_int ?hz (by decide) A5 j c5 (ints (D.take j)) ?hs HO3 ⟨w4.heap.size, 0, none⟩ 1 1 [.int .i64 x] ?hx (Lib.hid rfl) HNW H1C HBD ?next)
            case hz => rfl
            case hs => rfl
            case hx => rfl
            case next =>
              intro A6 c6 w6 ho6 hg6
              have HB6 := Lib.hid (below_own HBX.out HBD.out.2.2 HO3.out (Nat.le_refl _) rfl hg6.out)
              have HO6 : Hid (w6.ownsRow wc.heap.size 3 1 (.slice A6 (j + 1) c6) (j + 1) (ints (D.take (j + 1)))) := Lib.hid (by
                rw [HTK.out]
                have h := ho6.out
                simpa [ints] using h)
              clear ho6 hg6 HO3 HO2 HBX HBW
              go_wp2
              go_roundw
              case rel => exact ⟨j + 1, A6, c6, by omega, by go_num, rfl, by rw [HSN2.out]; rfl, HO6.out, HB6.out⟩
              case measure => simp [intOf]; omega
          · obtain rfl : T = false := HTF.out rfl
            have HBF := Lib.hid (HB0.out.trans ((HBC.out.trans (HBW.out.mono HBC.out.size)).mono HB0.out.size))
            go_wp2
            go_ret
            exact ⟨rfl, HBF.out⟩
      · obtain rfl : j = m' := by omega
        have hTt : T = true := by
          have h1 := HOK.out
          rw [List.take_of_length_le (by have := HDL.out; omega)] at h1
          rw [HTR.out, h1]
        subst hTt
        have HBF := Lib.hid (HB0.out.trans ((HBC.out.trans (HB.out.mono HBC.out.size)).mono HB0.out.size))
        go_wp2
        go_ret
        exact ⟨rfl, HBF.out⟩
end Go.Proofs.YtamnhnleipnhdaaDoor

/-
  message: draft.add.
-/
namespace Go.Proofs.YtamnhnleipnhdaaDoor

open Go.RowKit

/-- Block g is a draft with the items l; what stands beyond the bounds is only counted. -/
structure DrAt (g : Nat) (w : World) (l : List (Int × Int)) : Prop where
  mem : ∃ A n c q, Has w g 50 #[.slice A n c, .int .i64 (totalOf l)] ∧ w.ownsRow g 53 2 (.slice A n c) n (pairs q) ∧ q.length = n ∧ n ≤ 8184 ∧ (totalOf l ≤ 8184 → q = l)
  wid : ∀ x ∈ l, 1 ≤ x.2 ∧ x.2 ≤ 32
theorem DrAt.under {g : Nat} {w w' : World} {l : List (Int × Int)} (h : DrAt g w l) (hb : Below w.heap.size w w') : DrAt g w' l := by
  obtain ⟨A, n, c, q, h1, h2, h3⟩ := h.mem
  exact ⟨⟨A, n, c, q, h1.under hb h1.lt, own_under h2 hb (Nat.le_refl _), h3⟩, h.wid⟩

theorem wid_len : ∀ (l : List (Int × Int)), (∀ x ∈ l, 1 ≤ x.2 ∧ x.2 ≤ 32) → (l.length : Int) ≤ totalOf l
  | [], _ => by simp [totalOf]
  | x :: l, h => by
    have ih := wid_len l fun y hy => h y (by simp [hy])
    have h1 := h x (by simp)
    have e := total_append [x] l
    have e2 : totalOf [x] = x.2 := by simp [totalOf]
    rw [e2] at e
    rw [show x :: l = [x] ++ l from rfl, e]
    simp
    omega
theorem total_take {l : List (Int × Int)} {j : Nat} (h : j < l.length) : totalOf (l.take (j + 1)) = totalOf (l.take j) + (l[j]).2 := by
  rw [List.take_succ_eq_append_getElem h, total_append]
  simp [totalOf]
theorem total_mono {l : List (Int × Int)} (hw : ∀ x ∈ l, 1 ≤ x.2 ∧ x.2 ≤ 32) : ∀ j, j ≤ l.length → 0 ≤ totalOf (l.take j) ∧ totalOf (l.take j) ≤ 32 * j
  | 0, _ => by simp [totalOf]
  | j + 1, h => by
    have ih := total_mono hw j (by omega)
    have h2 := hw (l[j]) (List.getElem_mem (by omega))
    rw [total_take (by omega)]
    omega
theorem Sl.grow {w w' : World} {s : Nat} {A : Option Addr} {m c : Nat} {vs : List Value} {row : Option Nat} (h : Sl w s A m c vs) (hg : w.grownBy w' row) (hne : ∀ a, A = some a → vs ≠ [] → some a.block ≠ row) : Sl w' s A m c vs := by
  refine ⟨h.1, h.2.1, fun ad ha j u hu => ?_⟩
  have h0 := h.2.2 ad ha j u hu
  have hn : vs ≠ [] := fun e => by rw [e] at hu; simp at hu
  have hb := cell_block h0
  rw [World.cell?_of_block (w := w) (by rw [add_block] at hb ⊢; exact hg.block _ hb (hne ad ha hn))]
  exact h0
/-- A row of pairs is no draft. -/
theorem pairs_apart {w : World} {g : Nat} {A : Option Addr} {m c : Nat} {xs : List (Int × Int)} {Y : Value} (hx : Sl w 2 A m c (pairs xs)) (hh : Has w g 50 #[.slice none 0 0, Y] ∨ ∃ B n d, Has w g 50 #[.slice B n d, Y]) : ∀ a, A = some a → pairs xs ≠ [] → a.block ≠ g := by
  intro a ha hne hag
  obtain ⟨B, n, d, hh⟩ : ∃ B n d, Has w g 50 #[.slice B n d, Y] := by
    rcases hh with hh | hh
    · exact ⟨_, _, _, hh⟩
    · exact hh
  cases xs with
  | nil => exact hne rfl
  | cons x xs =>
    have e : pairs (x :: xs) = .int .i64 x.1 :: .int .i64 x.2 :: pairs xs := rfl
    obtain ⟨b, o, h1, h2⟩ := hx.at_ (j := 0) (u := .int .i64 x.1) (by rw [e]; rfl)
    obtain ⟨b', o', h1', h3⟩ := hx.at_ (j := 1) (u := .int .i64 x.2) (by rw [e]; rfl)
    rw [h1] at ha h1'
    injection ha with ha
    injection h1' with h1'
    injection h1' with e1 e2
    subst e1; subst e2
    rw [← ha] at hag
    have hag : b = g := hag
    subst hag
    rw [hh.cell] at h2 h3
    match o, h2, h3 with
    | 0, h2, _ => simp at h2
    | 1, _, h3 => simp at h3
    | o + 2, h2, _ => simp at h2

set_option maxRecDepth 100000 in
set_option maxHeartbeats 8000000 in
theorem omg_add (g : Nat) (l : List (Int × Int)) (w : World) (h : DrAt g w l) (B : Option Addr) (m d : Nat) (xs : List (Int × Int)) (hx : Sl w 2 B m d (pairs xs)) (hm : m ≤ 100000) (hwx : ∀ x ∈ xs, 1 ≤ x.2 ∧ x.2 ≤ 32) (ht : totalOf l ≤ 1000000000) :
    Calls Tryd.prog 26 #[.pointer (some ⟨g, 0, none⟩), .slice B m d] w fun e w' => e = .returned (.tuple #[]) ∧ DrAt g w' (l ++ xs) ∧ Below g w w' := by
  obtain ⟨⟨A, n, c, q, hh, ho, hq, hn, hql⟩, hwl⟩ := h
  have hxl : xs.length = m := by have := hx.1; rw [pairs_length] at this; omega
  have hap := pairs_apart hx (.inr ⟨A, n, c, hh⟩)
  have htm := total_mono hwx
  have hl0 : 0 ≤ totalOf l := by have := wid_len l hwl; omega
  have hgl := hh.lt
  have HH := Lib.hid hh; have HO := Lib.hid ho; have HX := Lib.hid hx; have HAP := Lib.hid hap; have HXL := Lib.hid hxl; have HTM := Lib.hid htm
  have HQ := Lib.hid hq; have HQL := Lib.hid hql; have HWL := Lib.hid hwl; have HWX := Lib.hid hwx
  obtain ⟨T, hT⟩ : ∃ T, totalOf l = T := ⟨_, rfl⟩
  rw [hT] at HH HQL ht hl0
  have HT := Lib.hid hT
  clear hh ho hx hap hxl htm hq hql hwl hwx hT
  go_enter Tryd.func26, Tryd.ntmps26
  go_wp2
  go_loopw [8] (fun i wr => ∃ j : Nat, j ≤ m ∧ i = .int .i64 (j : Nat) ∧ Has wr g 50 #[.slice A n c, .int .i64 (T + totalOf (xs.take j))] ∧ w.grownBy wr (some g)) (fun i _ => m - (intOf i).toNat)
  case atStart => exact ⟨0, by omega, rfl, by have := HH.out; simpa [totalOf] using this, only_refl _ _⟩
  case round =>
    obtain ⟨j, hj, rfl, hr, hgr⟩ := hrel
    have HR := Lib.hid hr; have HG := Lib.hid hgr
    clear hr hgr
    by_cases hlt : j < m
    · have hjl : j < xs.length := by have := HXL.out; omega
      have hsl := HX.out.grow HG.out (fun a ha hne e => HAP.out a ha hne (by injection e))
      obtain ⟨e1, e2⟩ := pairs_at xs j hjl
      obtain ⟨b0, o0, hA, f0⟩ := hsl.at_ e1
      obtain ⟨b1, o1, hA1, f1⟩ := hsl.at_ e2
      rw [hA] at hA1
      simp only [Option.some.injEq, Addr.mk.injEq, and_true] at hA1
      obtain ⟨rfl, rfl⟩ := hA1
      have htt := total_take hjl
      have hb1 := HTM.out (j + 1) (by omega)
      have hb0 := HTM.out j (by omega)
      have hgd : xs.getD j (0, 0) = xs[j] := by simp [List.getD_eq_getElem?_getD, hjl]
      rw [hgd] at f0 f1
      generalize xs[j] = X at *
      obtain ⟨x, k⟩ := X
      simp only at f0 f1 htt
      have HTT := Lib.hid htt
      rw [htt] at hb1
      have HRA : Hid (Has (wr.alloc (.cells #[.int .i64 x, .int .i64 k] 53)) g 50 #[.slice A n c, .int .i64 (T + totalOf (xs.take j))]) := Lib.hid (HR.out.beside _)
      have HGA : Hid (w.grownBy (wr.alloc (.cells #[.int .i64 x, .int .i64 k] 53)) (some g)) := Lib.hid (only_alloc HG.out _)
      generalize totalOf (xs.take j) = t at *
      have hxa : (wr.alloc (.cells #[.int .i64 x, .int .i64 k] 53)).cell? ⟨wr.heap.size, 1, none⟩ = some (.int .i64 k) := (Has.made wr 53 _).cell 1
      have hra : (wr.alloc (.cells #[.int .i64 x, .int .i64 k] 53)).cell? ⟨g, 1, none⟩ = some (.int .i64 (T + t)) := HRA.out.cell 1
      have hrf : (wr.alloc (.cells #[.int .i64 x, .int .i64 k] 53)).frozen? ⟨g, 1, none⟩ = false := HRA.out.thaw 1
      have x0 : (0 : Int) ≤ j := by omega
      have x1 : (j : Int) < m := by omega
      have x2 : o0 + (j * 2 + 1) = o0 + j * 2 + 1 := by omega
      rw [x2] at f1
      subst hA
      have y1 : IntKind.i64.wrap (T + t + k) = T + t + k := IntWalk.i64_in _ (by omega)
      clear htt hb1 hb0 hgd e1 e2 hsl hjl HR HG x2
      go_wp2_with fail
      generalize hwa : wr.alloc (.cells #[.int .i64 x, .int .i64 k] 53) = wa at *
      have q1 : wa.drew.cell? ⟨g, 1, none⟩ = some (.int .i64 (T + t)) := hra
      have q2 : wa.drew.frozen? ⟨g, 1, none⟩ = false := hrf
      go_still_tail 9, (by kernel_rfl)
      change wpList _ _ _ _ _ wa.drew
      go_wp2
      go_roundw
      case rel =>
        refine ⟨j + 1, by omega, by go_num, ?_, only_store (only_draw HGA.out) rfl _⟩
        have h2 := (HRA.out.draw).stored 1 (.int .i64 (T + t + k))
        rw [HTT.out, ← Int.add_assoc]
        exact h2
      case measure => simp [intOf]; omega
    · obtain rfl : j = m := by omega
      have hall : xs.take j = xs := List.take_of_length_le (by have := HXL.out; omega)
      rw [hall] at HR
      have htx := HTM.out j (by have := HXL.out; omega)
      rw [hall] at htx
      have hTA : totalOf (l ++ xs) = T + totalOf xs := by rw [total_append, HT.out]
      have HTA := Lib.hid hTA
      have hwid : ∀ x ∈ l ++ xs, 1 ≤ x.2 ∧ x.2 ≤ 32 := fun x hx => (List.mem_append.1 hx).elim (HWL.out x) (HWX.out x)
      have hbig := wid_len _ hwid
      rw [hTA, List.length_append] at hbig
      have HWID := Lib.hid hwid
      have hxl := HXL.out
      clear hTA hwid hall
      generalize totalOf xs = t at *
      have hos : wr.ownsRow g 53 2 (.slice A n c) n (pairs q) := own_keep HO.out HG.out (own_apart HO.out HH.out (by decide))
      have hsl := HX.out.grow HG.out (fun a ha hne e => HAP.out a ha hne (by injection e))
      have hbr : Below g w wr := below_only (Below.refl g w) HG.out (Nat.le_of_lt hgl) (Nat.le_refl _)
      have HOS := Lib.hid hos; have HSL := Lib.hid hsl; have HBR := Lib.hid hbr
      have r0 : wr.cell? ⟨g, 0, none⟩ = some (.slice A n c) := HR.out.cell 0
      have r1 : wr.cell? ⟨g, 1, none⟩ = some (.int .i64 (T + t)) := HR.out.cell 1
      have hrl := HR.out.lt
      clear hos hsl hbr HO HH HX HG
      by_cases hle : T + t ≤ 8184
      · have hql := HQL.out (by omega)
        subst hql
        have hnl : n + j ≤ 8184 := by have := HQ.out; omega
        have HNL := Lib.hid hnl
        have HON := Lib.hid (pairs_one xs)
        have HBD : Hid (n + j ≤ maxLen ∧ (n + j) * 16 ≤ 140737488355328 ∧ g ≤ wr.heap.size) := Lib.hid ⟨by unfold maxLen; omega, by omega, Nat.le_of_lt hrl⟩
        clear hbig hnl
        go_wp2_with (with_reducible refine wpList_pour (o := ⟨some 33, _, _, _, _, _⟩) rfl (.tmp 31) (.tmp 32) 48 rfl g 53 (.agg #[.int .i64 0, .int .i64 0]) 2 16 Tryd.underlying48 info_bits ?hz (by decide) A n c (pairs q) ?hs HOS B j d (pairs xs) ?hx HSL HON HBD ?next)
        all_goals try rfl
        case next =>
          intro A8 c8 w8 ho8 hg8
          have hap8 := own_apart HOS.out HR.out (by decide)
          have hh8 : Has w8 g 50 #[.slice A n c, .int .i64 (T + t)] := HR.out.grow hg8.out (fun e => hap8 e.symm)
          have r80 := hh8.thaw 0
          have r81 : w8.cell? ⟨g, 0, none⟩ = some (.slice A n c) := hh8.cell 0
          have hb8 := below_own HBR.out HBD.out.2.2 HOS.out (Nat.le_refl _) rfl hg8.out
          have hst := hh8.stored 0 (.slice A8 (n + j) c8)
          have ho9 : (w8.setCell ⟨g, 0, none⟩ (.slice A8 (n + j) c8)).ownsRow g 53 2 (.slice A8 (n + j) c8) (n + j) (pairs (q ++ xs)) := by
            rw [pairs_app]
            exact own_keep ho8.out (only_store (only_refl w8 (some g)) (p := ⟨g, 0, none⟩) rfl _) (own_apart ho8.out hh8 (by decide))
          have HB9 := Lib.hid (hb8.trans (below_store (w := w8) (base := g) (g := g) (Nat.le_refl _) (Nat.le_trans (Nat.le_of_lt hgl) hb8.size) 0 (.slice A8 (n + j) c8)))
          have HST := Lib.hid hst; have HO9 := Lib.hid ho9
          clear hap8 hh8 hb8 hst ho9 ho8 hg8 HOS HSL r0 r1
          go_wp2
          refine bodyPost_end (results_none rfl _ _ _) rfl ?_
          refine ⟨rfl, ⟨⟨A8, n + j, c8, q ++ xs, ?_, HO9.out, by rw [List.length_append]; have := HQ.out; omega, HNL.out, fun _ => rfl⟩, HWID.out⟩, HB9.out⟩
          rw [HTA.out]
          exact HST.out
      · go_wp2
        refine bodyPost_end (results_none rfl _ _ _) rfl ?_
        refine ⟨rfl, ⟨⟨A, n, c, q, ?_, HOS.out, HQ.out, hn, fun h => absurd h (by rw [HTA.out]; omega)⟩, HWID.out⟩, HBR.out⟩
        rw [HTA.out]
        exact HR.out
end Go.Proofs.YtamnhnleipnhdaaDoor

/-
  A packet's items fit their widths.
-/
namespace Go.Proofs.YtamnhnleipnhdaaDoor

open Go.RowKit

open BitsM

def FitW (x : Int × Int) : Prop := 0 ≤ x.1 ∧ x.1 < 2 ^ x.2.toNat
def FitS (s : WS) : Prop := ∀ x ∈ s.out, FitW x
theorem fitS_fetch (v : Int) (s : WS) : (fetch v s).2.out = s.out := by
  unfold fetch
  repeat' split
  all_goals rfl
theorem fitS_one (n : Nat) (hn : n < 96) (s : WS) (h : FitS s) : FitS (oneS n s).2 := by
  unfold oneS
  split
  · exact h
  split
  · intro x hx; rw [fitS_fetch] at hx; exact h x hx
  split
  · intro x hx
    have hx : x ∈ (fetch n s).2.out := hx
    rw [fitS_fetch] at hx; exact h x hx
  · rename_i h1 h2 h3
    have hm := may_fit n hn (fetch n s).1 (by simpa using h3)
    have hk : (keep n (fetch n s).1 (fetch n s).2).out = s.out ++ [((fetch n s).1, (widthOf n : Int))] := by
      unfold keep
      repeat' split
      all_goals (show (fetch n s).2.out ++ _ = _; rw [fitS_fetch])
    intro x hx
    have hx : x ∈ (keep n (fetch n s).1 (fetch n s).2).out := hx
    rw [hk, List.mem_append, List.mem_singleton] at hx
    rcases hx with hx | rfl
    · exact h x hx
    · exact ⟨hm.1, by simpa using hm.2⟩
theorem fitS_rep (f : WS → WS) (hf : ∀ s, FitS s → FitS (f s)) : ∀ (m : Nat) (s : WS), FitS s → FitS (repS f m s)
  | 0, s, h => h
  | m + 1, s, h => by
    rw [repS]
    split
    · exact h
    · exact fitS_rep f hf m _ (hf s h)
mutual
theorem fitS_runN : ∀ (x : Nd) (last : Int) (s : WS), goodN x = true → FitS s → FitS (runN x last s).2
  | .v n, last, s, hg, h => by
    simp only [goodN, decide_eq_true_eq] at hg
    simp only [runN]
    exact fitS_one n hg s h
  | .g kk b, last, s, hg, h => by
    simp only [goodN, Bool.and_eq_true, decide_eq_true_eq] at hg
    simp only [runN]
    exact fitS_rep _ (fun s hs => fitS_runL b 0 s hg.2.1 hs) _ _ h
theorem fitS_runL : ∀ (b : List Nd) (last : Int) (s : WS), goodL b = true → FitS s → FitS (runL b last s)
  | [], last, s, hg, h => by simp only [runL]; exact h
  | x :: l, last, s, hg, h => by
    simp only [goodL, Bool.and_eq_true] at hg
    simp only [runL]
    split
    · exact h
    · exact fitS_runL l _ _ hg.2 (fitS_runN x last s hg.1 h)
end
theorem items_fitW (id : Int) (V : List Int) : ∀ x ∈ (itemsF id V).1, FitW x := by
  unfold itemsF
  split
  · intro x hx; cases hx
  rename_i hk
  have hk : knownB id = true := by simpa using hk
  have hid := known_id hk
  obtain ⟨_, _, _, sh⟩ := shape_of hk
  have hs : FitS (startS id V) := by
    intro x hx
    have hx : x ∈ [(id, (8 : Int))] := hx
    rw [List.mem_singleton] at hx
    subst hx
    exact ⟨hid.1, by have := hid.2.1; simpa using this⟩
  have hr := fitS_runL (astOf id) 0 (startS id V) sh.good hs
  split
  · intro x hx; cases hx
  rename_i he
  split
  · intro x hx; cases hx
  split
  · intro x hx; cases hx
  rename_i ht
  obtain ⟨D1, D2, R, w, _, hR⟩ := items_form (V := V) hk (by omega)
  have hpos : 0 ≤ totalOf (runL (astOf id) 0 (startS id V)).out := by
    rw [hR]
    have a1 := laid_total (l := D1) (fun x hx => (w.fit x (List.mem_append_left _ hx)).2.2.1)
    have a2 := laid_total (l := D2) (fun x hx => (w.fit x (List.mem_append_right _ hx)).2.2.1)
    have a3 := total_mid id 0 D1 D2
    show 0 ≤ totalOf ([(id, (8 : Int))] ++ D1 ++ (0, 13) :: D2)
    omega
  intro x hx
  rcases List.mem_or_eq_of_mem_set hx with hx | rfl
  · exact hr x hx
  · refine ⟨hpos, ?_⟩
    show _ < (2 : Int) ^ 13
    omega
end Go.Proofs.YtamnhnleipnhdaaDoor

/-
  message: draft.bytes.
-/
namespace Go.Proofs.YtamnhnleipnhdaaDoor

open Go.RowKit

open BitsM

theorem run_alloc_writer (ρ : Operand → Value) (w : World) (o : Oper) (ho : o.op = .alloc 98) : (execOp ρ o).run Tryd.prog w = .ok (.value (.pointer (some ⟨w.heap.size, 0, none⟩))) (w.alloc (.cells (wcells []) 98)) := by
  unfold execOp
  rw [ho]
  kernel_rfl
theorem isW_new6 (w : World) : IsW (w.alloc (.cells (wcells []) 98)) w.heap.size [] := ⟨by simp, Has.made _ _ _⟩
theorem put_laid {bs : List Bool} {x : Int × Int} (h : FitP x) (hw : FitW x) (hb : bs.length + x.2.toNat ≤ 8184) : putB bs x.1 x.2 = bs ++ laidOf [x] := by
  have : putOk bs x.1 x.2 = true := by
    unfold putOk
    rw [decide_eq_true_eq]
    refine ⟨h.2.2.1, h.2.2.2, h.1, ?_, hb⟩
    have := hw.2
    exact_mod_cast this
  unfold putB
  rw [if_pos this, laid_one]
theorem laid_split (l : List (Int × Int)) (j : Nat) : (laidOf (l.take j)).length ≤ (laidOf l).length := by
  have e : laidOf l = laidOf (l.take j) ++ laidOf (l.drop j) := by rw [← laid_append, List.take_append_drop]
  rw [e, List.length_append]; omega

set_option maxRecDepth 100000 in
set_option maxHeartbeats 8000000 in
theorem omg_bytes (g : Nat) (l : List (Int × Int)) (w : World) (h : DrAt g w l) (h2 : 2 ≤ l.length) (h10 : (l.getD 1 (0, 0)).2 = 10) (hlen : l.length ≤ 1000000)
    (hf : ∀ k : Nat, k ≤ 1023 → ∀ x ∈ l.set 1 ((k : Int), 10), FitP x ∧ FitW x) (ht : totalOf l ≤ 1000000000) :
    Calls Tryd.prog 30 #[.pointer (some ⟨g, 0, none⟩)] w fun e w' => Bytes0 g w w' e (if 1023 < (totalOf l + 7) / 8 then ([], 2) else (bytesOf (laidOf (l.set 1 ((totalOf l + 7) / 8, 10))), 0)) := by
  obtain ⟨⟨A, n, c, q, hh, ho, hq, hn, hql⟩, hwl⟩ := h
  have hl0 := wid_len l hwl
  have hgl := hh.lt
  obtain ⟨T, hT⟩ : ∃ T : Nat, totalOf l = T := ⟨(totalOf l).toNat, by omega⟩
  rw [hT] at hh hql hl0 ht ⊢
  obtain ⟨E, hE⟩ : ∃ E : List Nat × Int, (if 1023 < ((T : Int) + 7) / 8 then (([], 2) : List Nat × Int) else (bytesOf (laidOf (l.set 1 (((T : Int) + 7) / 8, 10))), 0)) = E := ⟨_, rfl⟩
  rw [hE]
  have HE := Lib.hid hE
  have k1 : w.cell? ⟨g, 1, none⟩ = some (.int .i64 (T : Int)) := hh.cell 1
  have k0 : w.cell? ⟨g, 0, none⟩ = some (.slice A n c) := hh.cell 0
  have hbg : Below g w w := Below.refl _ _
  clear hE
  by_cases hk : 1023 < (T + 7) / 8
  · have x0 : (1023 : Int) < ((T : Int) + 7) / 8 := by omega
    have hEE : E = ([], 2) := by rw [← HE.out, if_pos x0]
    subst hEE
    clear hk HE hql ho hq hwl hf
    go_enter Tryd.func30, Tryd.ntmps30
    go_wp2
    go_ret2
    exact ⟨none, 0, rfl, fun h => absurd h (by simp), Nat.le_refl _, hbg⟩
  · have x0 : ¬ (1023 : Int) < ((T : Int) + 7) / 8 := by omega
    have hT8 : T ≤ 8184 := by omega
    have hq2 := hql (by omega)
    subst hq2
    obtain ⟨k, hkk⟩ : ∃ k : Nat, ((T : Int) + 7) / 8 = k := ⟨(T + 7) / 8, by omega⟩
    have hEE : E = (bytesOf (laidOf (q.set 1 ((k : Int), 10))), 0) := by rw [← HE.out, if_neg x0, hkk]
    have hfk := hf k (by omega)
    obtain ⟨L, hL⟩ : ∃ L, q.set 1 ((k : Int), 10) = L := ⟨_, rfl⟩
    have hps := pairs_set q 1 k
    rw [h10, hL] at hps
    rw [hL] at hEE hfk
    obtain ⟨bs, hbq⟩ : ∃ bs, laidOf L = bs := ⟨_, rfl⟩
    rw [hbq] at hEE
    subst hEE
    have HBQ := Lib.hid hbq; clear hbq
    have hLl : L.length = n := by rw [← hL, List.length_set, hq]
    have hLT : ((laidOf L).length : Int) = T := by
      rw [laid_total (fun x hx => (hfk x hx).1.2.2.1), ← hT]
      have hlt : 1 < q.length := by omega
      have e1 : q = q.take 1 ++ q[1] :: q.drop 2 := by
        rw [List.getElem_cons_drop, List.take_append_drop]
      have e2 : L = q.take 1 ++ ((k : Int), 10) :: q.drop 2 := by
        rw [← hL, List.set_eq_take_append_cons_drop, if_pos hlt]
      have e3 : q[1].2 = 10 := by
        have := h10
        rw [List.getD_eq_getElem?_getD, List.getElem?_eq_getElem hlt] at this
        simpa using this
      rw [e2]
      conv => rhs; rw [e1]
      rw [total_append, total_append, total_cons, total_cons, e3]
    obtain ⟨go, capo, hvo, hgo1, hgo2⟩ := ho.form (by omega)
    injection hvo with hvo1 _ hvo2
    subst hvo1; subst hvo2
    have hca : w.cell? ⟨go, 2, none⟩ = some (.int .i64 (q.getD 1 (0, 0)).1) := by
      rw [ho.cellAt 2 (by omega)]
      exact (pairs_at q 1 (by omega)).1
    have hfa : w.frozen? ⟨go, 2, none⟩ = false := ho.frozenAt 2
    have hst := ho.stored 2 (.int .i64 k)
    rw [show (pairs q).set 2 (.int .i64 (k : Int)) = pairs L from hps] at hst
    obtain ⟨hst1, hst2⟩ := hst
    have hne : go ≠ g := fun e => own_apart ho hh (by decide) (by rw [← e]; rfl)
    have hh2 := hh.grow hst2 (fun e => hne (by injection e with e; exact e.symm))
    have hbs := below_own hbg (Nat.le_of_lt hgl) ho (Nat.le_refl _) rfl hst2
    obtain ⟨w1, hw1⟩ : ∃ w1, w.setCell ⟨go, 2, none⟩ (.int .i64 k) = w1 := ⟨_, rfl⟩
    rw [hw1] at hst1 hst2 hh2 hbs
    have hgl1 := hh2.lt
    have k10 : w1.cell? ⟨g, 0, none⟩ = some (.slice (some ⟨go, 0, none⟩) n c) := hh2.cell 0
    have hW := isW_new6 w1
    have hgo3 := hst1.lt go rfl
    have HW := Lib.hid hW; have HSL := Lib.hid (Sl.of_own hst1 |>.beside (.cells (wcells []) 98)); have HBS := Lib.hid (hbs.alloc (Nat.le_of_lt hgl1) (.cells (wcells []) 98))
    have HW1 := Lib.hid hw1
    have HFK := Lib.hid hfk; have HLL := Lib.hid hLl; have HLT := Lib.hid hLT
    have k20 : (w1.alloc (.cells (wcells []) 98)).cell? ⟨g, 0, none⟩ = some (.slice (some ⟨go, 0, none⟩) n c) := (hh2.beside _).cell 0
    obtain ⟨y, hy⟩ : ∃ y, (q.getD 1 (0, 0)).1 = y := ⟨_, rfl⟩
    rw [hy] at hca
    have hgw : g ≤ w1.heap.size := Nat.le_of_lt hgl1
    have x1 : (1 : Int) < n := by omega
    clear HE hql ho hq hwl hf hps hfk hLl hLT hgo1 hgo2 hst1 hst2 hne hh2 hbs hW hh hL hT h10 hbg hy h2 hl0 hw1
    go_enter Tryd.func30, Tryd.ntmps30
    go_wp2_with (with_reducible refine Great.wpList_allocTo (o := ⟨some 5, _, _, _, _, _⟩) rfl (some 5) rfl _ _ (run_alloc_writer _ _ _ rfl) ?_)
    rw [HW1.out]
    have hsz : w1.heap.size = w.heap.size := by rw [← HW1.out]; simp [World.setCell]
    rw [hsz] at HW hgo3 hgw
    obtain ⟨w2, hw2⟩ : ∃ w2, w1.alloc (.cells (wcells []) 98) = w2 := ⟨_, rfl⟩
    rw [hw2] at HW HSL HBS ⊢
    have hs2 : w.heap.size < w2.heap.size := by rw [← hw2]; simp [hsz]
    clear hw2 HW1 hsz k10 k20 hca hfa k0 k1 hgl1 hk
    go_loopw [28] (fun i wr => ∃ j : Nat, j ≤ n ∧ i = .int .i64 (j : Nat) ∧ IsW wr w.heap.size (laidOf (L.take j)) ∧ w2.grownBy wr (some w.heap.size)) (fun i _ => n - (intOf i).toNat)
    case atStart => exact ⟨0, by omega, rfl, HW.out, only_refl _ _⟩
    case round =>
      clear HW
      obtain ⟨j, hj, rfl, hwj, hgj⟩ := hrel
      have HWJ := Lib.hid hwj; have HGJ := Lib.hid hgj
      clear hwj hgj
      by_cases hlt : j < n
      · have hjl : j < L.length := by have := HLL.out; omega
        have hsl := HSL.out.grow HGJ.out (fun a ha _ e => by injection ha with ha; rw [← ha] at e; injection e with e; have e : go = w.heap.size := e; omega)
        obtain ⟨e1, e2⟩ := pairs_at L j hjl
        have f0 := hsl.2.2 _ rfl _ _ e1
        have f1 := hsl.2.2 _ rfl _ _ e2
        rw [WideShapes.add_plain] at f0 f1
        rw [Nat.zero_add] at f0 f1
        have hgd : L.getD j (0, 0) = L[j] := by simp [List.getD_eq_getElem?_getD, hjl]
        rw [hgd] at f0 f1
        obtain ⟨p1, p2⟩ := HFK.out L[j] (List.getElem_mem hjl)
        have hst : laidOf (L.take (j + 1)) = laidOf (L.take j) ++ laidOf [L[j]] := by rw [List.take_succ_eq_append_getElem hjl, laid_append]
        have hll := laid_split L (j + 1)
        rw [hst, List.length_append, laid_one, wbits_length] at hll
        generalize L[j] = X at *
        obtain ⟨x, kx⟩ := X
        simp only at f0 f1 hll p1 p2
        have hpl := put_laid p1 p2 (bs := laidOf (L.take j)) (by have := HLT.out; simp only; omega)
        have HPL := Lib.hid hpl; have HST := Lib.hid hst
        have HPU := Lib.hid (put_any w.heap.size (laidOf (L.take j)) x kx (wr.alloc (.cells #[.int .i64 x, .int .i64 kx] 53)) (HWJ.out.under ((Below.refl _ _).alloc (Nat.le_refl _) _) (Nat.le_refl _)))
        have HGA : Hid (w2.grownBy (wr.alloc (.cells #[.int .i64 x, .int .i64 kx] 53)) (some w.heap.size)) := Lib.hid (only_alloc HGJ.out _)
        have x2 : (0 : Int) ≤ j := by omega
        have x3 : (j : Int) < n := by omega
        have x4 : 0 + (j * 2 + 1) = j * 2 + 1 := by omega
        clear e1 e2 hgd p1 p2 hst hll hpl hsl hjl HWJ HGJ
        go_wp2_with fail
        refine HPU.out.mono ?_
        rintro e w3 ⟨rfl, hw3, hg3⟩
        have HW3 := Lib.hid hw3; have HG3 := Lib.hid (only_trans HGA.out hg3)
        clear hw3 hg3 HPU HGA f0 f1
        go_wp2
        go_roundw
        case rel => exact ⟨j + 1, by omega, by go_num, by rw [HST.out, ← HPL.out]; exact HW3.out, HG3.out⟩
        case measure => simp [intOf]; omega
      · obtain rfl : j = n := by omega
        have hall : L.take j = L := List.take_of_length_le (by have := HLL.out; omega)
        rw [hall, HBQ.out] at HWJ
        have HBY := Lib.hid (bytes_any w.heap.size bs wr HWJ.out)
        have hbr := below_only HBS.out HGJ.out (by omega) (by omega)
        have HBR := Lib.hid hbr
        have hbz := hbr.size
        clear hall HWJ HGJ hbr
        go_wp2_with fail
        refine HBY.out.mono ?_
        rintro e w3 ⟨rfl, hh3, hb3⟩
        have HA3 := Lib.hid (At8.of_has hh3)
        have HB3 := Lib.hid (HBR.out.trans (hb3.mono (by omega)))
        have hol : (outBytes bs).length = (bytesOf bs).length := by rw [outBytes_length, bytesOf_length]
        have HOL := Lib.hid hol
        clear hh3 hb3 hol HBY
        go_wp2
        go_ret2
        exact ⟨some ⟨wr.heap.size, 0, none⟩, (outBytes bs).length, by show _ = Ending.returned (.tuple #[.slice _ (bytesOf bs).length _, .int .i64 0]); rw [← HOL.out]; rfl, HA3.out, by show (bytesOf bs).length ≤ _; rw [← HOL.out]; exact Nat.le_refl _, HB3.out⟩
end Go.Proofs.YtamnhnleipnhdaaDoor
