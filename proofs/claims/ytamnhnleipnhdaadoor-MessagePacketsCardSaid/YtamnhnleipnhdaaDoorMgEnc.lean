/-
  message.Encode, by contract.
-/
import Derived.Test.YtamnhnleipnhdaaDoorMgK

import Derived.Test.YtamnhnleipnhdaaDoorPk

import Derived.Deep.RegionHeld3

namespace Go.Proofs.YtamnhnleipnhdaaDoor

open Go.RowKit

open BitsM

theorem all_fitW {m : Msg} {n : Int} (hk : mknown m.id = true) (hm : maysOf (mvars m.id) (mvals m) = true) (h0 : 0 ≤ n) (h1 : n ≤ 1023) : ∀ x ∈ allP m n, FitW x := by
  have hl := (mshape hk).low
  intro x hx
  simp only [allP, List.mem_cons, List.mem_append] at hx
  rcases hx with rfl | rfl | hx | hx
  · exact ⟨hl.1, by show _ < (2 : Int) ^ 8; omega⟩
  · exact ⟨h0, by show _ < (2 : Int) ^ 10; omega⟩
  · simp only [pairsOf, List.mem_map] at hx
    obtain ⟨y, hy, rfl⟩ := hx
    have hz := List.all_eq_true.1 hm y hy
    have hf := may_fit y.1 (mvars_lt hk _ (List.of_mem_zip hy).1) y.2 hz
    exact ⟨hf.1, by simpa using hf.2⟩
  · have : ∀ (P : List (Int × List Int)), ∀ x ∈ (packsF P).1, FitW x := by
      intro P
      induction P with
      | nil => intro x hx; simp [packsF] at hx
      | cons p l ih =>
        intro x hx
        rw [packsF] at hx
        split at hx
        · cases hx
        split at hx
        · cases hx
        rw [List.mem_append] at hx
        exact hx.elim (items_fitW p.1 p.2 x) (ih x)
    exact this _ x hx
theorem dr_new (w : World) : DrAt w.heap.size (w.alloc (.cells #[.slice none 0 0, .int .i64 0] 50)) [] :=
  ⟨⟨none, 0, 0, [], Has.made _ _ _, World.ownsRow_nil _ _ _ _, rfl, by omega, fun _ => rfl⟩, fun x hx => by cases hx⟩
theorem dr_beside {g : Nat} {w : World} {l : List (Int × Int)} (h : DrAt g w l) (o : Obj) : DrAt g (w.alloc o) l := h.under ((Below.refl _ _).alloc (Nat.le_refl _) o)
theorem w0_8 : widthOf 0 = 8 := by kernel_rfl
theorem w1_10 : widthOf 1 = 10 := by kernel_rfl
theorem fitP_wid {l : List (Int × Int)} (h : ∀ x ∈ l, FitP x) : ∀ x ∈ l, 1 ≤ x.2 ∧ x.2 ≤ 32 := fun x hx => ⟨(h x hx).2.2.1, (h x hx).2.2.2⟩
theorem items_tot {id : Int} {V : List Int} (h : (itemsF id V).2 = 0) : totalOf (itemsF id V).1 ≤ 8184 := by
  have h2 : itemsF id V = ((itemsF id V).1, 0) := by rw [← h]
  obtain ⟨_, _, _, _, _, _, ht⟩ := items_ok h2
  exact ht

theorem sl_hasK {W : World} {g : Nat} {t : TypeId} {n s : Nat} {vs : List Value} (h : Has W g t vs.toArray) (hn : vs.length = n * s) : Sl W s (some ⟨g, 0, none⟩) n n vs := by
  refine ⟨hn, (fun e => by cases e), fun ad ha j u hu => ?_⟩
  injection ha with ha
  subst ha
  rw [WideShapes.add_plain, h.cell, Nat.zero_add]
  simpa using hu

set_option maxRecDepth 100000 in
set_option maxHeartbeats 8000000 in
theorem omg_enc_out (id t a o : Int) (A : Option Addr) (n c : Nat) (B : Option Addr) (m d : Nat) (w : World) (hk : mknown id = false) :
    Calls Tryd.prog 12 #[msgV id t a o A n c B m d] w fun e w' => Bytes0 w.heap.size w w' e ([], 4) := by
  have hb0 : Below w.heap.size w (w.alloc (.cells #[.int .i64 id, .int .i64 t, .int .i64 a, .int .i64 o, .slice A n c, .slice B m d] 25)) := (Below.refl _ _).alloc (Nat.le_refl _) _
  have HB0 := Lib.hid hb0
  have HK := Lib.hid (fun W => kd_any id W)
  unfold KdPost kdV at HK
  rw [hk] at HK
  clear hb0 hk
  unfold msgV msgCells
  go_enter Tryd.func12, Tryd.ntmps12
  go_wp2_with fail
  refine (HK.out _).mono ?_
  rintro e w1 ⟨O, no, co, F, nf, cf, P, np, cp, rfl, _, hb1⟩
  have h1 := HB0.out.trans (hb1.mono HB0.out.size)
  have HB1 := Lib.hid (h1.alloc h1.size (.cells #[.slice O no co, .slice F nf cf, .slice P np cp] 42))
  clear hb1 h1 HB0 HK
  go_wp2
  go_ret2
  exact bytes_none0 HB1.out 4

set_option maxRecDepth 100000 in
set_option maxHeartbeats 16000000 in
theorem omg_enc_in (id t a o : Int) (A : Option Addr) (n c : Nat) (B : Option Addr) (m d : Nat) (V : List Int) (l : List PkE) (w : World) (hk : mknown id = true)
    (hV : SlI w.heap.size w A n c V) (hl : SlK w B m d l) (hn : n ≤ 40) (hm : m ≤ 40) (hpk : ∀ p ∈ l, p.n ≤ 10000) (hwd : Wd w) :
    Calls Tryd.prog 12 #[msgV id t a o A n c B m d] w fun e w' => Bytes0 w.heap.size w w' e (encF (msgOf id t a o V l)) := by
  obtain ⟨E, hE⟩ : ∃ E, encF (msgOf id t a o V l) = E := ⟨_, rfl⟩
  rw [hE]
  have hsh := mshape hk
  have HE := Lib.hid hE
  have HKD := Lib.hid (fun W => kd_any id W)
  unfold KdPost at HKD
  rw [hk] at HKD
  have HU := Lib.hid (fun W => omg_up id W)
  have HV := Lib.hid (fun W (hW : Below w.heap.size w W) => sliUnder hV hW)
  have HL := Lib.hid (fun W (hW : Below w.heap.size w W) => hl.under hW)
  have HWD := Lib.hid (fun W (hW : Below w.heap.size w W) => hwd.under hW)
  have HVL := Lib.hid hV.len; have HLL := Lib.hid hl.len
  have HPK := Lib.hid hpk
  have hml : (mvars id).length ≤ 8 := by
    have := hsh.ownN
    unfold mvars baseV
    cases mup id <;> simp <;> omega
  have HVA := Lib.hid (fun O no co F nf cf P np cp W h => omg_vars id hk O no co F nf cf P np cp W h)
  have HNU := Lib.hid (fun W (hW : Below w.heap.size w W) => omg_nums id t a o A n c B m d V W (sln_of (sliUnder hV hW)) (by omega))
  have HAL := Lib.hid (fun O no co F nf cf P np cp W h (hW : Below w.heap.size w W) => omg_allows id hk O no co F nf cf P np cp B m d l W h (hl.under hW) (by omega))
  have HK := Lib.hid hk
  obtain ⟨w0, hw0⟩ : ∃ w0, w.alloc (.cells #[.int .i64 id, .int .i64 t, .int .i64 a, .int .i64 o, .slice A n c, .slice B m d] 25) = w0 := ⟨_, rfl⟩
  have hb0 : Below w.heap.size w w0 := by rw [← hw0]; exact (Below.refl _ _).alloc (Nat.le_refl _) _
  have hsz : w.heap.size < w0.heap.size := by rw [← hw0]; simp
  have hh : Has w0 w.heap.size 25 #[.int .i64 id, .int .i64 t, .int .i64 a, .int .i64 o, .slice A n c, .slice B m d] := by rw [← hw0]; exact Has.made _ _ _
  have HM := Lib.hid (fun W (hW : Below w0.heap.size w0 W) (i : Nat) => (hh.under hW hsz).cell i)
  have HB0 := Lib.hid hb0
  have k0 : w0.cell? ⟨w.heap.size, 0, none⟩ = some (.int .i64 id) := hh.cell 0
  clear hb0 hh hV hl hpk hE hsh hk hwd
  unfold msgV msgCells at *
  go_enter Tryd.func12, Tryd.ntmps12
  go_wp2_with fail
  refine (HKD.out _).mono ?_
  rintro e w1 ⟨O, no, co, F, nf, cf, P, np, cp, rfl, hkd, hb1⟩
  obtain ⟨w2, hw2⟩ : ∃ w2, w1.alloc (.cells #[.slice O no co, .slice F nf cf, .slice P np cp] 42) = w2 := ⟨_, rfl⟩
  have hb12 : Below w1.heap.size w1 w2 := by rw [← hw2]; exact (Below.refl _ _).alloc (Nat.le_refl _) _
  have hh2 : Has w2 w1.heap.size 42 #[.slice O no co, .slice F nf cf, .slice P np cp] := by rw [← hw2]; exact Has.made _ _ _
  have hs12 : w1.heap.size < w2.heap.size := by rw [← hw2]; simp
  have hb2 : Below w0.heap.size w0 w2 := hb1.trans (hb12.mono hb1.size)
  have HB2 := Lib.hid hb2
  have HKA := Lib.hid (fun W (hW : Below w2.heap.size w2 W) => (hkd.under hb12).under hW)
  have HKC := Lib.hid (fun W (hW : Below w2.heap.size w2 W) (i : Nat) => (hh2.under hW hs12).cell i)
  obtain ⟨gk, hgk⟩ : ∃ gk, w1.heap.size = gk := ⟨_, rfl⟩
  rw [hgk] at HKC
  unfold kdV at *
  have HV2 : Hid (∀ W, Below w2.heap.size w2 W → Calls Tryd.prog 23 #[.agg #[.slice O no co, .slice F nf cf, .slice P np cp], .int .i64 id] W fun e w' => ∃ A' c', e = .returned (.slice A' (varsI id).length c') ∧ SlN w' A' (varsI id).length c' (varsI id) ∧ Below W.heap.size W w' ∧ Below w2.heap.size w2 w') := Lib.hid (fun W hW =>
    (HVA.out O no co F nf cf P np cp W (HKA.out W hW)).mono fun _ _ ⟨A', c', h1, h2, h3⟩ => ⟨A', c', h1, h2, h3, hW.trans (h3.mono hW.size)⟩)
  have hb02 : Below w.heap.size w w2 := HB0.out.trans (HB2.out.mono HB0.out.size)
  have HN2 : Hid (∀ W, Below w2.heap.size w2 W → Calls Tryd.prog 24 #[.agg #[.int .i64 id, .int .i64 t, .int .i64 a, .int .i64 o, .slice A n c, .slice B m d]] W fun e w' => ∃ A' c', e = .returned (.slice A' (valsL (mup id) t a o V).length c') ∧ SlN w' A' (valsL (mup id) t a o V).length c' (valsL (mup id) t a o V) ∧ Below W.heap.size W w' ∧ Below w2.heap.size w2 w') := Lib.hid (fun W hW =>
    (HNU.out W (hb02.trans (hW.mono hb02.size))).mono fun _ _ ⟨A', c', h1, h2, h3⟩ => ⟨A', c', h1, h2, h3, hW.trans (h3.mono hW.size)⟩)
  have HB02 := Lib.hid hb02
  have KC : Hid (∀ W, Below w2.heap.size w2 W → (W.cell? ⟨gk, 0, none⟩ = some (.slice O no co) ∧ W.cell? ⟨gk, 1, none⟩ = some (.slice F nf cf) ∧ W.cell? ⟨gk, 2, none⟩ = some (.slice P np cp) ∧ W.cell? ⟨w.heap.size, 0, none⟩ = some (.int .i64 id) ∧ W.cell? ⟨w.heap.size, 1, none⟩ = some (.int .i64 t) ∧ W.cell? ⟨w.heap.size, 2, none⟩ = some (.int .i64 a) ∧ W.cell? ⟨w.heap.size, 3, none⟩ = some (.int .i64 o) ∧ W.cell? ⟨w.heap.size, 4, none⟩ = some (.slice A n c) ∧ W.cell? ⟨w.heap.size, 5, none⟩ = some (.slice B m d))) := Lib.hid (fun W hW => by
    have hM := HM.out W (HB2.out.trans (hW.mono HB2.out.size))
    exact ⟨HKC.out W hW 0, HKC.out W hW 1, HKC.out W hW 2, hM 0, hM 1, hM 2, hM 3, hM 4, hM 5⟩)
  have HVI : Hid (natI (mvars id) = varsI id) := Lib.hid rfl
  have HVN : Hid ((varsI id).length = (mvars id).length) := Lib.hid (by simp [varsI])
  have HNI : Hid (mvals (msgOf id t a o V l) = valsL (mup id) t a o V) := Lib.hid (vals_of _)
  have HNL : Hid ((valsL (mup id) t a o V).length ≤ 50) := Lib.hid (by have := HVL.out; unfold valsL; cases mup id <;> simp <;> omega)
  generalize varsI id = VI at *
  generalize valsL (mup id) t a o V = NI at *
  go_upto_region 4 with fail
  have KC0 := KC.out w2 (Below.refl _ _)
  have HKC0 := Lib.hid KC0
  clear hw2 hb12 hh2 hs12 hb2 hkd hb1 HVA HNU HM HKC k0 hw0 hsz hgk KC0 hb02 HKD
  go_cut [6, 7] (fun s6 s7 wc => ∃ A6 c6 A7 c7, s6 = .slice A6 VI.length c6 ∧ s7 = .slice A7 NI.length c7 ∧ SlN wc A6 VI.length c6 VI ∧ SlN wc A7 NI.length c7 NI ∧ Below w2.heap.size w2 wc)
  case first =>
    go_region_held3 (fun w' => (w'.cell? ⟨gk, 0, none⟩ = some (.slice O no co) ∧ w'.cell? ⟨gk, 1, none⟩ = some (.slice F nf cf) ∧ w'.cell? ⟨gk, 2, none⟩ = some (.slice P np cp) ∧ w'.cell? ⟨w.heap.size, 0, none⟩ = some (.int .i64 id) ∧ w'.cell? ⟨w.heap.size, 1, none⟩ = some (.int .i64 t) ∧ w'.cell? ⟨w.heap.size, 2, none⟩ = some (.int .i64 a) ∧ w'.cell? ⟨w.heap.size, 3, none⟩ = some (.int .i64 o) ∧ w'.cell? ⟨w.heap.size, 4, none⟩ = some (.slice A n c) ∧ w'.cell? ⟨w.heap.size, 5, none⟩ = some (.slice B m d)))
      (first | exact HKC0.out | exact KC.out _ (by assumption))
      (first
        | (go_at_call 23; refine (HV2.out _ (by first | assumption | exact below_draws (Below.refl _ _) 1)).mono ?_; rintro e w5 ⟨A5, c5, rfl, hs5, hx5, hb5⟩)
        | (go_at_call 24; refine (HN2.out _ (by first | assumption | exact below_draws (Below.refl _ _) 1)).mono ?_; rintro e w6 ⟨A6, c6, rfl, hs6, hx6, hb6⟩))
    go_wp2
    go_meet
    exact ⟨A5, c5, A6, c6, rfl, rfl, hs5.under hx6, hs6, hb6⟩
  case rest =>
    obtain ⟨A6, c6, A7, c7, rfl, rfl, hs6, hs7, hbc⟩ := hcut
    have HB := Lib.hid hbc
    have hbw : Below w.heap.size w wc := HB02.out.trans (hbc.mono HB02.out.size)
    have HBW := Lib.hid hbw
    have hvn := HVN.out; have hnl := HNL.out
    have hvd := omg_valid A6 VI.length c6 (mvars id) A7 NI.length c7 NI wc (by rw [HVI.out]; exact hs6) hs7 (by omega) (by omega) (HWD.out wc hbw)
    have HE2 := HE.out
    unfold encF at HE2
    rw [if_neg (show ¬ mknown (msgOf id t a o V l).id = false by rw [show (msgOf id t a o V l).id = id from rfl, HK.out]; decide), HNI.out, show (msgOf id t a o V l).id = id from rfl, show (msgOf id t a o V l).ack = a from rfl] at HE2
    have HE3 := Lib.hid HE2
    have HS6 := Lib.hid hs6; have HS7 := Lib.hid hs7
    clear HE2 HV2 HN2 HKC0
    go_upto_region 5 with fail
    go_cut [42] (fun s wx => ∃ b, s = .bool b ∧ Below wc.heap.size wc wx ∧ (b = true → E = ([], 20)) ∧ (b = false → (mvars id).length = NI.length ∧ maysOf (mvars id) NI = true ∧ (mup id = true → a = 0)))
    case first =>
      obtain ⟨ok, hok⟩ : ∃ ok, (decide ((mvars id).length = NI.length) && maysOf (mvars id) NI) = ok := ⟨_, rfl⟩
      rw [hok] at hvd
      have HVD := Lib.hid hvd; have HOK := Lib.hid hok
      have HS6 := Lib.hid hs6; have HS7 := Lib.hid hs7
      obtain ⟨q0, q1, q2, q3, q4, q5, q6, q7, q8⟩ := KC.out wc hbc
      clear hs6 hs7 hbc hbw hvn hvd hok
      go_wp2_with fail
      refine HVD.out.mono ?_
      rintro e w3 ⟨rfl, rfl⟩
      clear HVD
      cases ok
      · have hEE : E = ([], 20) := by
          rw [← HE3.out]
          by_cases h1 : (mvars id).length ≠ NI.length ∨ (mup id = true ∧ a ≠ 0)
          · rw [if_pos h1]
          · rw [if_neg h1]
            have h2 : (mvars id).length = NI.length := by
              by_cases h : (mvars id).length = NI.length
              · exact h
              · exact absurd (.inl h) h1
            have h3 := HOK.out
            rw [decide_eq_true h2, Bool.true_and] at h3
            rw [if_pos h3]
        have HEE := Lib.hid hEE
        clear hEE
        go_wp2
        go_meet
        exact ⟨true, rfl, Below.refl _ _, fun _ => HEE.out, (fun h => by cases h)⟩
      · have hlm : (mvars id).length = NI.length ∧ maysOf (mvars id) NI = true := by have := HOK.out; simpa using this
        obtain ⟨hlen, hmay⟩ := hlm
        have HLEN := Lib.hid hlen; have HMAY := Lib.hid hmay
        clear hlen hmay HOK
        go_wp2_with fail
        refine (HU.out _).mono ?_
        rintro e w4 ⟨rfl, hb4⟩
        have hb24 : Below w2.heap.size w2 w4 := HB.out.trans (hb4.mono HB.out.size)
        have HS64 := Lib.hid (HS6.out.under hb4); have HS74 := Lib.hid (HS7.out.under hb4)
        have HB4 := Lib.hid hb24
        have HBW4 := Lib.hid (HB02.out.trans (hb24.mono HB02.out.size))
        obtain ⟨p0, p1, p2, p3, p4, p5, p6, p7, p8⟩ := KC.out w4 hb24
        obtain ⟨u, hu⟩ : ∃ u, mup id = u := ⟨_, rfl⟩
        have HE4 := HE3.out
        rw [hu] at HE4
        rw [hu]
        have HUU := Lib.hid hu
        have HE5 := Lib.hid HE4
        have HBX := Lib.hid hb4
        clear hb4 hb24 q0 q1 q2 q3 q4 q5 q6 q7 q8 HE4 HE3 hu HS6 HS7 HB HBW HU
        by_cases hx : u = true ∧ a ≠ 0
        · have hEE : E = ([], 20) := by rw [← HE5.out, if_pos (.inr hx)]
          have HEE := Lib.hid hEE
          clear hEE
          obtain ⟨rfl, ha⟩ := hx
          have e1 : (a != 0) = true := by simp [ha]
          have e2 : (a == 0) = false := by simp [ha]
          clear ha
          go_wp2
          go_meet
          exact ⟨true, rfl, HBX.out, fun _ => HEE.out, (fun h => by cases h)⟩
        · have hm3 : mup id = true → a = 0 := fun h => by
            by_cases ha : a = 0
            · exact ha
            · exact absurd ⟨by rw [← HUU.out]; exact h, ha⟩ hx
          have HM3 := Lib.hid hm3
          clear hm3
          cases u
          · clear hx
            go_wp2
            go_meet
            exact ⟨false, rfl, HBX.out, (fun h => by cases h), fun _ => ⟨HLEN.out, HMAY.out, by first | exact HM3.out | (intro _; trivial)⟩⟩
          · have ha : a = 0 := by
              by_cases ha : a = 0
              · exact ha
              · exact absurd ⟨rfl, ha⟩ hx
            subst ha
            clear hx
            go_wp2
            go_meet
            exact ⟨false, rfl, HBX.out, (fun h => by cases h), fun _ => ⟨HLEN.out, HMAY.out, by first | exact HM3.out | (intro _; trivial)⟩⟩
    case rest =>
      obtain ⟨b5, rfl, hb4, hbt, hbf⟩ := hcut
      clear hvn hnl hvd hs6 hs7
      cases b5
      · obtain ⟨hlen, hmay, hup⟩ := hbf rfl
        have hxx : ¬ ((mvars id).length ≠ NI.length ∨ mup id = true ∧ a ≠ 0) := fun h => h.elim (fun h => h hlen) (fun h => h.2 (hup h.1))
        have HE6 : Hid _ := Lib.hid (by have h := HE3.out; rw [if_neg hxx, if_neg (by rw [hmay]; decide)] at h; exact h)
        have hb24 : Below w2.heap.size w2 wc := HB.out.trans (hb4.mono HB.out.size)
        have hbw4 : Below w.heap.size w wc := HB02.out.trans (hb24.mono HB02.out.size)
        have hs6 := HS6.out.under hb4
        have hs7 := HS7.out.under hb4
        obtain ⟨w4, hw4⟩ : ∃ w4, wc = w4 := ⟨_, rfl⟩
        rw [hw4] at hb24 hbw4 hs6 hs7 ⊢
        have HLEN := Lib.hid hlen; have HMAY := Lib.hid hmay
        obtain ⟨g, hg⟩ : ∃ g, w4.heap.size = g := ⟨_, rfl⟩
        have HGW : Hid (w.heap.size ≤ g) := Lib.hid (by rw [← hg]; exact hbw4.size)
        have HX6 := Lib.hid (fun W (hW : Below g w4 W) => hs6.under (by rw [hg]; exact hW))
        have HX7 := Lib.hid (fun W (hW : Below g w4 W) => hs7.under (by rw [hg]; exact hW))
        have HBW4 := Lib.hid (fun W (hW : Below g w4 W) => hbw4.trans (hW.mono (by rw [← hg]; exact hbw4.size)))
        have HB24 := Lib.hid (fun W (hW : Below g w4 W) => hb24.trans (hW.mono (by rw [← hg]; exact hb24.size)))
        have HI0 : Hid (∀ W, Wd W → Calls Tryd.prog 27 #[.int .i64 0, .int .i64 id] W fun e w' => e = .returned (.agg #[.int .i64 id, .int .i64 8]) ∧ Below W.heap.size W w') := Lib.hid (fun W hW => by
          have h := omg_item 0 id W hW
          rw [w0_8] at h
          exact h)
        have HI1 : Hid (∀ W, Wd W → Calls Tryd.prog 27 #[.int .i64 1, .int .i64 0] W fun e w' => e = .returned (.agg #[.int .i64 0, .int .i64 10]) ∧ Below W.heap.size W w') := Lib.hid (fun W hW => by
          have h := omg_item 1 0 W hW
          rw [w1_10] at h
          exact h)
        obtain ⟨wd, hwd⟩ : ∃ wd, w4.alloc (.cells #[.slice none 0 0, .int .i64 0] 50) = wd := ⟨_, rfl⟩
        have hdr := dr_new w4
        have hbd : Below g w4 wd := by rw [← hwd, ← hg]; exact (Below.refl _ _).alloc (Nat.le_refl _) _
        have hgd : g < wd.heap.size := by rw [← hwd, ← hg]; simp
        rw [hwd, hg] at hdr
        have HDR := Lib.hid hdr; have HBD := Lib.hid hbd
        have p3 := (KC.out wd (HB24.out wd hbd)).2.2.2.1
        have hlow := (mshape HK.out).low
        have HLOW := Lib.hid hlow
        clear hlen hmay hup hxx hb24 hbw4 hs6 hs7 hbt hbf hb4 hdr hbd hw4 HS6 HS7 HU HB HBW hlow HE3
        go_wp2_with fail
        refine (HI0.out _ (HWD.out _ (HBW4.out _ HBD.out))).mono ?_
        rintro e w5 ⟨rfl, hb5⟩
        have hb5' : Below g w4 w5 := HBD.out.trans (hb5.mono (Nat.le_of_lt hgd))
        have HB5 := Lib.hid hb5'; have HD5 := Lib.hid (HDR.out.under hb5)
        have hg5 : g ≤ w5.heap.size := Nat.le_trans (Nat.le_of_lt hgd) hb5.size
        clear hb5 hb5' HDR p3
        go_wp2_with fail
        refine (HI1.out _ (HWD.out _ (HBW4.out _ HB5.out))).mono ?_
        rintro e w6 ⟨rfl, hb6⟩
        have hb6' : Below g w4 w6 := HB5.out.trans (hb6.mono hg5)
        have hd6 := HD5.out.under hb6
        have hg6 : g ≤ w6.heap.size := Nat.le_trans hg5 hb6.size
        obtain ⟨wa, hwa⟩ : ∃ wa, w6.alloc (.cells #[.int .i64 id, .int .i64 8, .int .i64 0, .int .i64 10] 53) = wa := ⟨_, rfl⟩
        have hba : Below g w4 wa := by rw [← hwa]; exact hb6'.alloc hg6 _
        have hga : g ≤ wa.heap.size := by rw [← hwa]; simp; omega
        have hsa : Sl wa 2 (some ⟨w6.heap.size, 0, none⟩) 2 2 (pairs [(id, 8), (0, 10)]) := by
          rw [← hwa]
          exact sl_hasK (t := 53) (Has.made w6 _ _) rfl
        have hda : DrAt g wa [] := by rw [← hwa]; exact dr_beside hd6 _
        have hlw := HLOW.out
        have HAD := Lib.hid (omg_add g [] wa hda (some ⟨w6.heap.size, 0, none⟩) 2 2 [(id, 8), (0, 10)] hsa (by omega) (fun x hx => by simp at hx; rcases hx with rfl | rfl <;> exact ⟨by simp, by simp⟩) (by simp [totalOf]))
        have HBA := Lib.hid hba
        clear hb6 hb6' hd6 hba hsa hda HB5 HD5 HBD HI0 HI1 hlw hg5 hg6
        go_wp2_with fail
        refine HAD.out.mono ?_
        rintro e w7 ⟨rfl, hd7, hb7⟩
        have HD7 := Lib.hid hd7
        have HB7 := Lib.hid (HBA.out.trans hb7)
        clear hd7 hb7 HAD HBA hwa hga hwd hgd hg
        obtain ⟨M, hM⟩ : ∃ M, mvars id = M := ⟨_, rfl⟩
        have HMM := Lib.hid hM
        rw [hM] at HLEN HMAY HVI HVN hml
        have hvm : ∀ v ∈ M, v < 96 := by rw [← hM]; exact mvars_lt HK.out
        have HVM := Lib.hid hvm
        have hnl := HNL.out
        clear hM hvm
        go_wp2
        go_loopw [51] (fun i wr => ∃ j : Nat, j ≤ VI.length ∧ i = .int .i64 (j : Nat) ∧ DrAt g wr ([(id, 8), (0, 10)] ++ pairsOf (M.take j) (NI.take j)) ∧ Below g w4 wr) (fun i _ => VI.length - (intOf i).toNat)
        case atStart => exact ⟨0, by omega, rfl, by simpa [pairsOf] using HD7.out, HB7.out⟩
        case round =>
          clear HD7 HB7
          obtain ⟨j, hj, rfl, hdj, hbj⟩ := hrel
          have HDJ := Lib.hid hdj; have HBJ := Lib.hid hbj
          have hgr : g < wr.heap.size := by obtain ⟨⟨_, _, _, _, hh, _⟩, _⟩ := hdj; exact hh.lt
          clear hdj hbj
          by_cases hlt : j < VI.length
          · have hl1 : j < M.length := by have := HVN.out; omega
            have hl2 : j < NI.length := by have := HLEN.out; omega
            obtain ⟨b0, o0, rfl, c0⟩ := (HX6.out wr HBJ.out).at_ (j := j) hlt
            obtain ⟨b1, o1, rfl, c1⟩ := (HX7.out wr HBJ.out).at_ (j := j) hl2
            obtain ⟨hpt, hmy⟩ := pairs_take hl1 hl2
            have hpre := mays_pre (j + 1) HMAY.out
            rw [hmy, Bool.and_eq_true] at hpre
            have hmv := hpre.2
            have e0 : VI.getD j 0 = ((M[j] : Nat) : Int) := by rw [← HVI.out]; simp [natI, hl1, List.getD_eq_getElem?_getD]
            have e1 : NI.getD j 0 = NI[j] := by simp [hl2, List.getD_eq_getElem?_getD]
            rw [e0] at c0
            rw [e1] at c1
            have hv96 := HVM.out M[j] (List.getElem_mem hl1)
            have htb := total_mono (l := [(id, (8 : Int)), (0, 10)] ++ pairsOf (M.take j) (NI.take j)) (HDJ.out.wid) _ (Nat.le_refl _)
            rw [List.take_length] at htb
            have hlb : ([(id, (8 : Int)), (0, 10)] ++ pairsOf (M.take j) (NI.take j)).length ≤ 100 := by simp [pairsOf]; omega
            generalize M[j] = v at *
            generalize NI[j] = x at *
            have hfm := fit_may v hv96 x hmv
            have HPT := Lib.hid hpt
            have HIT := Lib.hid (omg_item v x wr (HWD.out _ (HBW4.out _ HBJ.out)))
            generalize widthOf v = k at *
            have HFM := Lib.hid hfm
            have HTB : Hid (totalOf ([(id, (8 : Int)), (0, 10)] ++ pairsOf (M.take j) (NI.take j)) ≤ 1000000000) := Lib.hid (by omega)
            have x0 : (0 : Int) ≤ j := by omega
            have x1 : (j : Int) < VI.length := by omega
            have x2 : (j : Int) < NI.length := by omega
            clear hl1 hl2 hpt hmy hpre hmv e0 e1 hv96 htb hlb hfm
            go_wp2_with fail
            refine HIT.out.mono ?_
            rintro e w8 ⟨rfl, hb8⟩
            have hb8' := HBJ.out.trans (hb8.mono (Nat.le_of_lt hgr))
            have hg8 : g ≤ w8.heap.size := Nat.le_trans (Nat.le_of_lt hgr) hb8.size
            have hd8 := HDJ.out.under hb8
            obtain ⟨wa, hwa⟩ : ∃ wa, w8.alloc (.cells #[.int .i64 x, .int .i64 (k : Nat)] 53) = wa := ⟨_, rfl⟩
            have hba : Below g w4 wa := by rw [← hwa]; exact hb8'.alloc hg8 _
            have hsa : Sl wa 2 (some ⟨w8.heap.size, 0, none⟩) 1 1 (pairs [(x, (k : Int))]) := by
              rw [← hwa]
              exact sl_hasK (t := 53) (Has.made w8 _ _) rfl
            have hda : DrAt g wa ([(id, 8), (0, 10)] ++ pairsOf (M.take j) (NI.take j)) := by rw [← hwa]; exact dr_beside hd8 _
            have HAD := Lib.hid (omg_add g _ wa hda (some ⟨w8.heap.size, 0, none⟩) 1 1 [(x, (k : Int))] hsa (by omega) (fun y hy => by simp at hy; subst hy; exact ⟨HFM.out.2.2.1, HFM.out.2.2.2⟩) HTB.out)
            have HBA := Lib.hid hba
            clear hb8 hb8' hg8 hd8 hba hsa hda HIT HDJ HBJ c0 c1
            go_wp2_with fail
            refine HAD.out.mono ?_
            rintro e w9 ⟨rfl, hd9, hb9⟩
            have HD9 := Lib.hid hd9
            have HB9 := Lib.hid (HBA.out.trans hb9)
            clear hd9 hb9 HAD HBA hwa
            go_wp2
            go_roundw
            case rel => exact ⟨j + 1, by omega, by go_num, by rw [HPT.out, ← List.append_assoc]; exact HD9.out, HB9.out⟩
            case measure => simp [intOf]; omega
          · obtain rfl : j = VI.length := by omega
            have t1 : M.take VI.length = M := List.take_of_length_le (by have := HVN.out; omega)
            have t2 : NI.take VI.length = NI := List.take_of_length_le (by have := HVN.out; have := HLEN.out; omega)
            rw [t1, t2] at HDJ
            have htb := total_mono (l := [(id, (8 : Int)), (0, 10)] ++ pairsOf M NI) (HDJ.out.wid) _ (Nat.le_refl _)
            rw [List.take_length] at htb
            have hlb : ([(id, (8 : Int)), (0, 10)] ++ pairsOf M NI).length ≤ 100 := by simp [pairsOf]; omega
            obtain ⟨H0, hH0⟩ : ∃ H0, [(id, (8 : Int)), (0, 10)] ++ pairsOf M NI = H0 := ⟨_, rfl⟩
            rw [hH0] at HDJ htb hlb
            have HH0 := Lib.hid hH0
            have HT0 : Hid (totalOf H0 ≤ 10000) := Lib.hid (by omega)
            have HPA := Lib.hid (fun j (h : j < l.length) => mplain_at l j h)
            have HPP : (msgOf id t a o V l).P = pkPlain l := rfl
            rw [HPP] at HE6
            have HPQ := Lib.hid HPP
            have HIDS : Hid (pkIds l = (pkPlain l).map Prod.fst) := Lib.hid (by simp [pkIds, pkPlain])
            have HPL : Hid ((pkPlain l).length = m) := Lib.hid (by rw [plain_len, HLL.out])
            generalize pkPlain l = PP at *
            obtain ⟨q0, q1, q2, q3, q4, q5, q6, q7, q8⟩ := KC.out wr (HB24.out wr HBJ.out)
            clear t1 t2 htb hlb hH0 HPP q0 q1 q2 q3 q4 q5 q6 q7
            go_wp2
            obtain ⟨wq, hwq⟩ : ∃ wq, wr = wq := ⟨_, rfl⟩
            rw [hwq] at HDJ HBJ ⊢
            clear hwq q8
            go_loopw [68] (fun i wr => ∃ j : Nat, j ≤ m ∧ i = .int .i64 (j : Nat) ∧ (∀ p ∈ PP.take j, (itemsF p.1 p.2).2 = 0) ∧ DrAt g wr (H0 ++ flatJ PP j) ∧ totalOf (H0 ++ flatJ PP j) ≤ 10000 + 8184 * j ∧ Below g w4 wr) (fun i _ => m - (intOf i).toNat)
            case atStart => exact ⟨0, by omega, rfl, (fun p h => by simp at h), by simpa [flatJ] using HDJ.out, by simpa [flatJ] using HT0.out, HBJ.out⟩
            case round =>
              clear HDJ HBJ
              obtain ⟨j, hj, rfl, hok, hdj, htj, hbj⟩ := hrel
              have HOK := Lib.hid hok; have HDJ := Lib.hid hdj; have HBJ := Lib.hid hbj
              have hgr : g < wr.heap.size := by obtain ⟨⟨_, _, _, _, hh, _⟩, _⟩ := hdj; exact hh.lt
              clear hok hdj hbj
              by_cases hlt : j < m
              · have hjl : j < l.length := by rw [HLL.out]; exact hlt
                have hbw := HBW4.out wr HBJ.out
                obtain ⟨b0, o0, rfl, f0, f1⟩ := (HL.out wr hbw).at_ hjl
                have e1 := (HL.out wr hbw).each l[j] (List.getElem_mem hjl)
                have hn1 := HPK.out l[j] (List.getElem_mem hjl)
                have r1 := HPA.out j hjl
                generalize l[j] = X at *
                obtain ⟨xi, xA, xn, xc, xV⟩ := X
                simp only at f0 f1 e1 hn1 r1
                have hbp : Below wr.heap.size wr (wr.alloc (.cells #[.int .i64 xi, .slice xA xn xc] 39)) := (Below.refl _ _).alloc (Nat.le_refl _) _
                have hit := opk_items xi xA xn xc xV _ (sliUnder e1 hbp) (by omega) ((HWD.out wr hbw).under hbp)
                have hl2 := items_len2 xi xV
                have hfw := fitP_wid (items_fit xi xV)
                have htt := items_tot (id := xi) (V := xV)
                have HST := Lib.hid (flat_step r1)
                have HFI := Lib.hid (fun he => packs_first PP j (xi, xV) HOK.out r1 he)
                simp only at HFI HST
                unfold pkV ItemsPost at hit
                have hdp := HDJ.out.under hbp
                have hbx : Below g w4 (wr.alloc (.cells #[.int .i64 xi, .slice xA xn xc] 39)) := HBJ.out.trans (hbp.mono (Nat.le_of_lt hgr))
                obtain ⟨⟨OO, ee⟩, hT⟩ : ∃ T, itemsF xi xV = T := ⟨_, rfl⟩
                have hok2 : ee = 0 → ∀ p ∈ PP.take (j + 1), (itemsF p.1 p.2).2 = 0 := fun he p hp => by
                  obtain ⟨h1, h2⟩ := List.getElem?_eq_some_iff.1 r1
                  rw [List.take_succ_eq_append_getElem h1, List.mem_append, List.mem_singleton, h2] at hp
                  rcases hp with hp | rfl
                  · exact HOK.out p hp
                  · simp only; rw [hT]; exact he
                rw [hT] at hit hl2 hfw htt HFI HST
                have HIT := Lib.hid hit; have HOK2 := Lib.hid hok2; have HFW := Lib.hid hfw; have HTT := Lib.hid htt
                have HDP := Lib.hid hdp; have HBX := Lib.hid hbx
                have hgp : g < (wr.alloc (.cells #[.int .i64 xi, .slice xA xn xc] 39)).heap.size := by simp; omega
                have HGP := Lib.hid hgp
                clear hit hT hok2 r1 e1 hn1 hfw htt hdp hbx hbp hgp HOK HDJ HBJ hbw hjl
                simp only at HIT HFI HST hl2 HTT HFW
                have x0 : (0 : Int) ≤ j := by omega
                have x1 : (j : Int) < m := by omega
                go_wp2_with fail
                refine HIT.out.mono ?_
                rintro e w11 ⟨A9, m9, c9, rfl, hs9, hb9⟩
                have HS9 := Lib.hid hs9
                have HD9 := Lib.hid (HDP.out.under hb9)
                have HB9 := Lib.hid (HBX.out.trans (hb9.mono (Nat.le_of_lt HGP.out)))
                clear hb9 hs9 HIT HDP HBX f0 f1
                by_cases he : ee = 0
                · subst he
                  have htt2 := HTT.out rfl
                  have hm9 : m9 ≤ 8184 := by have := HS9.out.len; omega
                  have htot : totalOf (H0 ++ flatJ PP (j + 1)) ≤ 10000 + 8184 * ((j + 1 : Nat) : Int) := by
                    rw [HST.out, ← List.append_assoc, total_append]
                    omega
                  have HTOT := Lib.hid htot
                  have HAD := Lib.hid (omg_add g _ w11 HD9.out A9 m9 c9 OO HS9.out.sl (by omega) HFW.out (by omega))
                  clear htt2 htot HD9 HS9
                  go_wp2_with fail
                  refine HAD.out.mono ?_
                  rintro e w12 ⟨rfl, hd12, hb12⟩
                  have HD12 := Lib.hid hd12
                  have HB12 := Lib.hid (HB9.out.trans hb12)
                  clear hd12 hb12 HAD HB9 htj
                  go_wp2
                  go_roundw
                  case rel => exact ⟨j + 1, by omega, by go_num, (by have h := HOK2.out; first | exact h trivial | exact h rfl | exact h), by rw [HST.out, ← List.append_assoc]; exact HD12.out, HTOT.out, HB12.out⟩
                  case measure => simp [intOf]; omega
                · have hEE : E = ([], ee) := by
                    have h := HE6.out
                    rw [HFI.out he, if_pos he] at h
                    exact h.symm
                  subst hEE
                  have e2 : (ee != 0) = true := by simp [he]
                  have e3 : (ee == 0) = false := by simp [he]
                  have HBF := Lib.hid (HBW4.out _ HB9.out)
                  clear he
                  go_wp2
                  go_ret2
                  exact bytes_none0 HBF.out ee
              · obtain rfl : j = m := by omega
                have hPt : PP.take j = PP := List.take_of_length_le (by have := HPL.out; omega)
                have hok := HOK.out
                rw [hPt] at hok
                have hpa := packs_all PP hok
                obtain ⟨OO, hO⟩ : ∃ OO, flatJ PP j = OO := ⟨_, rfl⟩
                have hO2 : packsF PP = (OO, 0) := by rw [hpa, ← hO, flatJ, hPt]
                rw [hO] at HDJ htj
                have hall : ∀ k, allP (msgOf id t a o V l) k = (id, 8) :: (k, 10) :: (pairsOf M NI ++ OO) := fun k => by
                  unfold allP
                  rw [HPQ.out, hO2, HNI.out, show (msgOf id t a o V l).id = id from rfl, HMM.out]
                have hH : H0 ++ OO = allP (msgOf id t a o V l) 0 := by rw [hall, ← HH0.out]; rfl
                rw [hH] at HDJ htj
                have hmys : maysOf (mvars (msgOf id t a o V l).id) (mvals (msgOf id t a o V l)) = true := by rw [HNI.out, show (msgOf id t a o V l).id = id from rfl, HMM.out]; exact HMAY.out
                have hkk : mknown (msgOf id t a o V l).id = true := HK.out
                have hset : ∀ k, (allP (msgOf id t a o V l) 0).set 1 (k, 10) = allP (msgOf id t a o V l) k := fun k => by rw [hall, hall]; rfl
                have hg1 : ((allP (msgOf id t a o V l) 0).getD 1 (0, 0)).2 = 10 := by rw [hall]; rfl
                have h2l : 2 ≤ (allP (msgOf id t a o V l) 0).length := by rw [hall]; simp
                have hwl := wid_len _ HDJ.out.wid
                have hfit : ∀ k : Nat, k ≤ 1023 → ∀ x ∈ (allP (msgOf id t a o V l) 0).set 1 ((k : Int), 10), FitP x ∧ FitW x := fun k hk x hx => by
                  rw [hset] at hx
                  exact ⟨all_fit (n := (k : Int)) hkk hmys (by omega) (by omega) x hx, all_fitW (n := (k : Int)) hkk hmys (by omega) (by omega) x hx⟩
                have HE7 : Hid ((if fitsF id (PP.map Prod.fst) = false then (([], 50) : List Nat × Int) else if 1023 < (totalOf (allP (msgOf id t a o V l) 0) + 7) / 8 then ([], 2) else (bytesOf (laidOf ((allP (msgOf id t a o V l) 0).set 1 ((totalOf (allP (msgOf id t a o V l) 0) + 7) / 8, 10))), 0)) = E) := Lib.hid (by
                  have h := HE6.out
                  rw [hO2, if_neg (by simp)] at h
                  rw [hset]
                  exact h)
                obtain ⟨X, hX⟩ : ∃ X, allP (msgOf id t a o V l) 0 = X := ⟨_, rfl⟩
                rw [hX] at HDJ htj hg1 h2l hwl hfit HE7
                have HFIT := Lib.hid hfit; have HG1 := Lib.hid hg1; have H2L := Lib.hid h2l; have HTJ := Lib.hid htj; have HWL := Lib.hid hwl
                have hbw := HBW4.out wr HBJ.out
                have hal := HAL.out O no co F nf cf P np cp wr (HKA.out wr (HB24.out wr HBJ.out)) hbw
                rw [HIDS.out] at hal
                have HALL := Lib.hid hal
                obtain ⟨q0, q1, q2, q3, q4, q5, q6, q7, q8⟩ := KC.out wr (HB24.out wr HBJ.out)
                generalize fitsF id (PP.map Prod.fst) = ff at *
                clear hPt hok hpa hO hO2 hall hH hmys hkk hset hg1 h2l hwl hfit hX hbw hal htj HE6 HIDS HAL
                go_wp2_with fail
                refine HALL.out.mono ?_
                rintro e w12 ⟨rfl, hb12⟩
                have HD12 := Lib.hid (HDJ.out.under hb12)
                have HB12 := Lib.hid (HBJ.out.trans (hb12.mono (Nat.le_of_lt hgr)))
                clear hb12 HALL HDJ HBJ q0 q1 q2 q3 q4 q5 q6 q7 q8
                cases ff
                · have hEE : E = ([], 50) := by rw [← HE7.out, if_pos rfl]
                  subst hEE
                  have HBF := Lib.hid (HBW4.out _ HB12.out)
                  go_wp2
                  go_ret2
                  exact bytes_none0 HBF.out 50
                · have hby := omg_bytes g X w12 HD12.out H2L.out HG1.out (by have := HTJ.out; have := HWL.out; omega) HFIT.out (by have := HTJ.out; omega)
                  have hEE := HE7.out
                  rw [if_neg (by decide)] at hEE
                  rw [hEE] at hby
                  unfold Bytes0 at hby
                  have HBY := Lib.hid hby
                  have HGW2 := HGW.out
                  obtain ⟨EL, EE⟩ := E
                  clear hby hEE HE7
                  go_wp2_with fail
                  refine HBY.out.mono ?_
                  rintro e w13 ⟨A13, c13, rfl, ha13, hc13, hb13⟩
                  have HA13 := Lib.hid ha13; have HC13 := Lib.hid hc13
                  have HB13 := Lib.hid (HBW4.out _ (HB12.out.trans hb13))
                  clear ha13 hc13 hb13 HBY
                  go_wp2
                  go_ret2
                  exact ⟨A13, c13, rfl, HA13.out, HC13.out, HB13.out⟩
      · obtain rfl := hbt rfl
        have HBF := Lib.hid (HBW.out.trans (hb4.mono HBW.out.size))
        go_wp2
        go_ret2
        exact bytes_none0 HBF.out 20

/-- message.Encode, called with any message. -/
theorem omg_encode (id t a o : Int) (A : Option Addr) (n c : Nat) (B : Option Addr) (m d : Nat) (V : List Int) (l : List PkE) (w : World)
    (hV : SlI w.heap.size w A n c V) (hl : SlK w B m d l) (hn : n ≤ 40) (hm : m ≤ 40) (hpk : ∀ p ∈ l, p.n ≤ 10000) (hwd : Wd w) :
    Calls Tryd.prog 12 #[msgV id t a o A n c B m d] w fun e w' => Bytes0 w.heap.size w w' e (encF (msgOf id t a o V l)) := by
  cases hk : mknown id
  · have h := omg_enc_out id t a o A n c B m d w hk
    have e : encF (msgOf id t a o V l) = ([], 4) := by unfold encF; rw [if_pos (by exact hk)]
    rw [e]
    exact h
  · exact omg_enc_in id t a o A n c B m d V l w hk hV hl hn hm hpk hwd
end Go.Proofs.YtamnhnleipnhdaaDoor
