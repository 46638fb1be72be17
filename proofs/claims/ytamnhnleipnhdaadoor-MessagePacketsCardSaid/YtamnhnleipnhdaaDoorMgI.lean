/-
  MsFits, MsFitsW, MsNames, MsVals, MsSame, MsSame2: merged.
-/
import Derived.Test.YtamnhnleipnhdaaDoorMgH
import Derived.Deep.DeepCutAuto
import Derived.Test.YtamnhnleipnhdaaDoorMgE

/-
  A slice of packets; linesideref06.Fits.
-/
namespace Go.Proofs.YtamnhnleipnhdaaDoor

open Go.RowKit

structure PkE where
  id : Int
  A : Option Addr
  n : Nat
  c : Nat
  V : List Int
def pkCells (l : List PkE) : List Value := l.flatMap fun p => [.int .i64 p.id, .slice p.A p.n p.c]
def pkPlain (l : List PkE) : List (Int × List Int) := l.map fun p => (p.id, p.V)
def pkIds (l : List PkE) : List Int := l.map fun p => p.id
theorem pkCells_length (l : List PkE) : (pkCells l).length = l.length * 2 := by
  induction l with
  | nil => rfl
  | cons p l ih => rw [show pkCells (p :: l) = [.int .i64 p.id, .slice p.A p.n p.c] ++ pkCells l from rfl, List.length_append, ih, List.length_cons, List.length_cons, List.length_cons, List.length_nil]; omega
theorem pkCells_at : ∀ (l : List PkE) (j : Nat) (h : j < l.length), (pkCells l)[j * 2]? = some (.int .i64 l[j].id) ∧ (pkCells l)[j * 2 + 1]? = some (.slice l[j].A l[j].n l[j].c)
  | p :: l, 0, _ => ⟨rfl, rfl⟩
  | p :: l, j + 1, h => by
    have := pkCells_at l j (by simpa using h)
    rw [show pkCells (p :: l) = .int .i64 p.id :: .slice p.A p.n p.c :: pkCells l from rfl, show (j + 1) * 2 = j * 2 + 1 + 1 by omega]
    exact this
structure SlK (w : World) (A : Option Addr) (m c : Nat) (l : List PkE) : Prop where
  len : l.length = m
  cap : m ≤ c
  sl : Sl w 2 A m c (pkCells l)
  each : ∀ p ∈ l, SlI w.heap.size w p.A p.n p.c p.V
theorem sliUnder {w w' : World} {A : Option Addr} {n c : Nat} {V : List Int} (h : SlI w.heap.size w A n c V) (hb : Below w.heap.size w w') : SlI w'.heap.size w' A n c V := by
  have h2 := h.below hb
  exact ⟨h2.len, h2.cap, h2.sl, fun hc a ha => Nat.lt_of_lt_of_le (h2.low hc a ha) hb.size⟩
theorem SlK.under {w w' : World} {A : Option Addr} {m c : Nat} {l : List PkE} (h : SlK w A m c l) (hb : Below w.heap.size w w') : SlK w' A m c l :=
  ⟨h.len, h.cap, h.sl.under hb, fun p hp => sliUnder (h.each p hp) hb⟩
theorem SlK.at_ {w : World} {A : Option Addr} {m c : Nat} {l : List PkE} (h : SlK w A m c l) {j : Nat} (hj : j < l.length) :
    ∃ b off, A = some ⟨b, off, none⟩ ∧ w.cell? ⟨b, off + j * 2, none⟩ = some (.int .i64 l[j].id) ∧ w.cell? ⟨b, off + j * 2 + 1, none⟩ = some (.slice l[j].A l[j].n l[j].c) := by
  obtain ⟨h1, h2⟩ := pkCells_at l j hj
  obtain ⟨b, off, hA, hc⟩ := h.sl.at_ h1
  obtain ⟨b', off', hA', hc'⟩ := h.sl.at_ h2
  rw [hA] at hA'
  simp only [Option.some.injEq, Addr.mk.injEq, and_true] at hA'
  obtain ⟨rfl, rfl⟩ := hA'
  exact ⟨b, off, hA, hc, by rw [← Nat.add_assoc] at hc'; exact hc'⟩

def okS (may : ByteArray) (l : List Int) : Bool := l.all (fun x => amongB x may) && decide l.Nodup
def mustS (must : ByteArray) (p : Int) : Bool := if must = ⟨#[82, 69, 80, 79, 82, 84]⟩ then decide (p = 0) || decide (p = 1) else amongB p must
def fitsS (must may : ByteArray) (ids : List Int) : Bool :=
  if must = ⟨#[]⟩ then okS may ids else match ids with
    | [] => false
    | a :: l => mustS must a && okS may l
theorem okS_rest {id : Int} (h : mknown id = true) (l : List Int) : okS (mrow id).may l = restB (mrow id).mayL l := by
  have hs := mshape h
  unfold okS restB
  have e : ∀ x, amongB x (mrow id).may = decide (x ∈ (mrow id).mayL) := fun x => among_list hs.may (by
    rw [List.all_eq_true]
    intro y hy
    have := List.all_eq_true.1 hs.mayR y hy
    simp only [Bool.and_eq_true] at this
    simp only [Bool.and_eq_true]
    exact this.1) x
  simp only [e]
theorem among15 (p : Int) : amongB p ⟨#[49, 53]⟩ = decide (p = 15) := by
  rw [among_list (L := [15]) (by kernel_rfl) (by decide)]
  simp
theorem fits_text {id : Int} (h : mknown id = true) (ids : List Int) : fitsS (mrow id).must (mrow id).may ids = fitsF id ids := by
  have hs := mshape h
  unfold fitsS fitsF
  obtain ⟨hk, _, _⟩ := hs.kd
  have hm := hs.must
  rcases hk with h0 | h1 | h2
  · rw [if_pos h0] at hm
    rw [if_pos hm, if_pos h0, okS_rest h]
  · rw [if_neg (by omega), if_pos h1] at hm
    rw [if_neg (by rw [hm]; decide), if_neg (by omega)]
    cases ids with
    | nil => rfl
    | cons a l => simp only [okS_rest h, mustS, mustB, hm, h1, if_true, among15]; rfl
  · rw [if_neg (by omega), if_neg (by omega)] at hm
    rw [if_neg (by rw [hm]; decide), if_neg (by omega)]
    cases ids with
    | nil => rfl
    | cons a l => simp only [okS_rest h, mustS, mustB, hm, h2, if_true]; rfl
end Go.Proofs.YtamnhnleipnhdaaDoor

/-
  linesideref06.Fits, walked.
-/
namespace Go.Proofs.YtamnhnleipnhdaaDoor

open Go.RowKit

theorem ok_snoc (may : ByteArray) (L : List Int) (x : Int) : okS may (L ++ [x]) = (okS may L && amongB x may && decide (x ∉ L)) := by
  unfold okS
  rw [List.all_append]
  by_cases h : x ∈ L
  · have h1 : ¬ (L ++ [x]).Nodup := fun hd => (List.nodup_append.1 hd).2.2 x h x (by simp) rfl
    rw [decide_eq_false h1, decide_eq_false (show ¬ (x ∉ L) from fun k => k h)]; simp
  · have h1 : (L ++ [x]).Nodup ↔ L.Nodup := by
      rw [List.nodup_append]
      constructor
      · exact fun k => k.1
      · exact fun k => ⟨k, by simp, fun a ha b hb e => by simp at hb; subst hb; subst e; exact h ha⟩
    rw [decide_eq_true h, Bool.and_true]
    by_cases hN : L.Nodup
    · rw [decide_eq_true (h1.2 hN), decide_eq_true hN]
      simp
    · rw [decide_eq_false (fun k => hN (h1.1 k)), decide_eq_false hN]
      simp
theorem ok_pre {may : ByteArray} {L : List Int} (n : Nat) (h : okS may L = true) : okS may (L.take n) = true := by
  unfold okS at h ⊢
  simp only [Bool.and_eq_true, List.all_eq_true, decide_eq_true_eq] at h ⊢
  exact ⟨fun x hx => h.1 x (List.mem_of_mem_take hx), (List.take_sublist n L).nodup h.2⟩
theorem drop_at (l : List PkE) (f t : Nat) (h : f + t < l.length) : ((pkIds l).drop f)[t]? = some l[f + t].id := by
  rw [List.getElem?_drop]
  simp [pkIds, h]
theorem take_at {D : List Int} {t : Nat} {x : Int} (h : D[t]? = some x) : D.take (t + 1) = D.take t ++ [x] := by
  obtain ⟨h1, h2⟩ := List.getElem?_eq_some_iff.1 h
  rw [List.take_succ_eq_append_getElem h1, h2]
theorem not_mem_take {D : List Int} {t : Nat} {x : Int} (ht : t ≤ D.length) (h : ∀ v, v < t → D.getD v 0 ≠ x) : x ∉ D.take t := by
  intro hm
  obtain ⟨v, hv, e⟩ := List.getElem_of_mem hm
  have hv2 : v < t := by simp at hv; omega
  refine h v hv2 ?_
  rw [List.getElem_take] at e
  rw [List.getD_eq_getElem?_getD, List.getElem?_eq_getElem (by omega)]
  exact e

set_option maxRecDepth 100000 in
set_option maxHeartbeats 8000000 in
theorem fits_any (R : MRow) (hmay : R.may.size ≤ 65536) (hmust : R.must.size ≤ 65536) (A : Option Addr) (m c : Nat) (l : List PkE) (w : World) (hl : SlK w A m c l) (hm : m ≤ 1048576) :
    Calls Tryd.prog 38 #[rowV R, .slice A m c] w fun e w' => e = .returned (.bool (fitsS R.must R.may (pkIds l))) ∧ Below w.heap.size w w' := by
  have hlen := hl.len
  obtain ⟨T, hT⟩ : ∃ T, fitsS R.must R.may (pkIds l) = T := ⟨_, rfl⟩
  rw [hT]
  have HT := Lib.hid hT; clear hT
  have HAM := Lib.hid (fun id W => among_any id R.may hmay W)
  have HAU := Lib.hid (fun id W => among_any id R.must hmust W)
  obtain ⟨w0, hw0⟩ : ∃ w0, w.alloc (.cells #[.string R.own, .string R.must, .string R.may] 60) = w0 := ⟨_, rfl⟩
  have hb0 : Below w.heap.size w w0 := by rw [← hw0]; exact (Below.refl _ _).alloc (Nat.le_refl _) _
  have hsz : w.heap.size < w0.heap.size := by rw [← hw0]; simp
  have hh : Has w0 w.heap.size 60 #[.string R.own, .string R.must, .string R.may] := by rw [← hw0]; exact Has.made _ _ _
  have KR := Lib.hid (fun W (hW : Below w0.heap.size w0 W) => And.intro ((hh.under hW hsz).cell 1) ((hh.under hW hsz).cell 2))
  have KL := Lib.hid (fun W (hW : Below w0.heap.size w0 W) => (hl.under hb0).under hW)
  have HB0 := Lib.hid hb0
  obtain ⟨E, hE, hE1⟩ : ∃ E : Bool, R.must.toList.isEmpty = E ∧ E = decide (R.must = ⟨#[]⟩) := ⟨_, rfl, by rw [isEmpty_ne]; simp⟩
  obtain ⟨Q, hQ, hQ1⟩ : ∃ Q : Bool, (R.must.toList == [82, 69, 80, 79, 82, 84]) = Q ∧ Q = decide (R.must = ⟨#[82, 69, 80, 79, 82, 84]⟩) := ⟨_, rfl, by rw [← bytes_beq, show (⟨#[82, 69, 80, 79, 82, 84]⟩ : ByteArray).toList = [82, 69, 80, 79, 82, 84] from by kernel_rfl]⟩
  have HE := Lib.hid hE1; have HQ := Lib.hid hQ1
  clear hE1 hQ1
  have k10 : w0.cell? ⟨w.heap.size, 1, none⟩ = some (.string R.must) := hh.cell 1
  clear hl hb0 hh hmay hmust
  unfold rowV
  go_enter Tryd.func38, Tryd.ntmps38
  go_upto_if 12 with fail
  go_cut [5] (fun s5 wc => ∃ f : Nat, s5 = .int .i64 (f : Nat) ∧ f ≤ m ∧ T = okS R.may ((pkIds l).drop f) ∧ Below w0.heap.size w0 wc)
  case first =>
    cases E
    · have hm0 : ¬ R.must = ⟨#[]⟩ := of_decide_eq_false HE.out.symm
      cases l with
      | nil =>
        obtain rfl : m = 0 := by simpa using hlen.symm
        obtain rfl : T = false := by have := HT.out; unfold fitsS at this; rw [if_neg hm0] at this; exact this.symm
        clear hQ KR HE hm0
        go_wp2_with fail
        go_ret
        exact ⟨rfl, HB0.out⟩
      | cons a t =>
        have hTT : (mustS R.must a.id && okS R.may (pkIds t)) = T := by have := HT.out; unfold fitsS at this; rw [if_neg hm0] at this; exact this
        have HTT := Lib.hid hTT; clear hTT HT hm0 HE
        have hmN : 0 < m := by simp at hlen; omega
        have hmp : (0 : Int) < m := by omega
        have hmz : ((m : Int) == 0) = false := by rw [beq_eq_false_iff_ne]; omega
        obtain ⟨b0, o0, rfl, hc, _⟩ := (KL.out w0 (Below.refl _ _)).at_ (j := 0) (by simp)
        have hc : w0.cell? ⟨b0, o0, none⟩ = some (.int .i64 a.id) := by simpa using hc
        have hcB : b0 < w0.heap.size := cell_block hc
        have KC := Lib.hid (fun W (hW : Below w0.heap.size w0 W) => And.intro ((hW.cell (p := ⟨b0, o0, none⟩) hcB).trans hc) ((hW.cell (p := ⟨w.heap.size, 1, none⟩) hsz).trans k10))
        have hms : mustS R.must a.id = (if Q = true then decide (a.id = 0) || decide (a.id = 1) else amongB a.id R.must) := by rw [HQ.out]; simp [mustS]
        have HMS := Lib.hid hms; clear hms
        have HAU := Lib.hid (HAU.out a.id)
        generalize mustS R.must a.id = MS at *
        generalize amongB a.id R.must = q at *
        go_wp2_with fail
        go_region_held3 (fun w' => w'.cell? ⟨b0, o0, none⟩ = some (.int .i64 a.id) ∧ w'.cell? ⟨w.heap.size, 1, none⟩ = some (.string R.must)) (first | go_keep | exact KC.out _ (Below.refl _ _) | exact KC.out _ (by assumption)) (first
          | (go_at_call 71; refine (HAU.out _).mono ?_; rintro e w4 ⟨rfl, hb4⟩; have hb5 := (below_draws (Below.refl w0.heap.size w0) 1).trans hb4; have hc4 := KC.out _ hb5))
        obtain ⟨c40, c41⟩ := hc4
        have HB5 := Lib.hid hb5
        clear hb4 hb5 hc hcB k10
        cases Q
        · have hMS : MS = q := by have := HMS.out; simpa using this
          subst hMS
          cases MS
          · obtain rfl : T = false := by have := HTT.out; simpa using this.symm
            have HBF := Lib.hid (HB0.out.trans (HB5.out.mono HB0.out.size))
            go_wp2_with fail
            go_ret
            exact ⟨rfl, HBF.out⟩
          · go_wp2_with fail
            go_meet
            exact ⟨1, rfl, by omega, by have := HTT.out; simpa [pkIds] using this.symm, HB5.out⟩
        · have hMS : MS = (decide (a.id = 0) || decide (a.id = 1)) := by have := HMS.out; simpa using this
          by_cases e0 : a.id = 0
          · have d0 : (a.id == 0) = true := by simp [e0]
            rw [decide_eq_true e0, Bool.true_or] at hMS
            subst hMS
            clear e0
            go_wp2_with fail
            go_meet
            exact ⟨1, rfl, by omega, by have := HTT.out; simpa [pkIds] using this.symm, HB5.out⟩
          · have d0 : (a.id == 0) = false := by simp [e0]
            rw [decide_eq_false e0, Bool.false_or] at hMS
            by_cases e1 : a.id = 1
            · have d1 : (a.id == 1) = true := by simp [e1]
              rw [decide_eq_true e1] at hMS
              subst hMS
              clear e0 e1
              go_wp2_with fail
              go_meet
              exact ⟨1, rfl, by omega, by have := HTT.out; simpa [pkIds] using this.symm, HB5.out⟩
            · have d1 : (a.id == 1) = false := by simp [e1]
              rw [decide_eq_false e1] at hMS
              subst hMS
              clear e0 e1
              obtain rfl : T = false := by have := HTT.out; simpa using this.symm
              have HBF := Lib.hid (HB0.out.trans (HB5.out.mono HB0.out.size))
              go_wp2_with fail
              go_ret
              exact ⟨rfl, HBF.out⟩
    · have hm0 : R.must = ⟨#[]⟩ := of_decide_eq_true HE.out.symm
      obtain rfl : T = okS R.may (pkIds l) := by have := HT.out; unfold fitsS at this; rw [if_pos hm0] at this; exact this.symm
      clear hQ KR HT
      go_wp2_with fail
      go_meet
      exact ⟨0, rfl, by omega, rfl, Below.refl _ _⟩
  case rest =>
    obtain ⟨f, rfl, hf, hTf, hbc⟩ := hcut
    have HBC := Lib.hid hbc
    have HTF := Lib.hid hTf
    have KM := Lib.hid (fun W (hW : Below wc.heap.size wc W) => (KR.out W (hbc.trans (hW.mono hbc.size))).2)
    have KS := Lib.hid (fun W (hW : Below wc.heap.size wc W) => KL.out W (hbc.trans (hW.mono hbc.size)))
    have hDl : ((pkIds l).drop f).length = m - f := by simp [pkIds, hlen]
    have HDA := Lib.hid (fun t (h : f + t < l.length) => drop_at l f t h)
    clear hbc hTf KR KL HT HE HQ hE hQ k10 HAU
    generalize (pkIds l).drop f = D at *
    go_wp2
    go_loopw [7] (fun i wr => ∃ t : Nat, f + t ≤ m ∧ i = .int .i64 ((f + t : Nat) : Int) ∧ okS R.may (D.take t) = true ∧ Below wc.heap.size wc wr) (fun i _ => m - (intOf i).toNat)
    case atStart => exact ⟨0, by omega, by simp, rfl, Below.refl _ _⟩
    case round =>
      obtain ⟨t, ht, rfl, hok, hb⟩ := hrel
      have HBR := Lib.hid hb
      have HOK := Lib.hid hok
      clear hb hok
      by_cases hlt : f + t < m
      · have hjl : f + t < l.length := by omega
        obtain ⟨b0, o0, rfl, hc, _⟩ := (KS.out wr HBR.out).at_ hjl
        have hx := HDA.out t hjl
        have hr := KM.out wr HBR.out
        have hr : wr.cell? ⟨w.heap.size, 2, none⟩ = some (.string R.may) := hr
        have hsn := ok_snoc R.may (D.take t) (l[f + t]).id
        rw [HOK.out, ← take_at hx, Bool.true_and] at hsn
        have hHA := HAM.out (l[f + t]).id
        generalize (l[f + t]).id = x at *
        generalize amongB x R.may = q at *
        have HX := Lib.hid hx; have HSN := Lib.hid hsn; have HQ := Lib.hid hHA
        clear hx hsn hHA
        have KC := Lib.hid (fun W (hW : Below wr.heap.size wr W) => And.intro ((hW.cell (p := ⟨b0, o0 + (f + t) * 2, none⟩) (cell_block hc)).trans hc) ((hW.cell (p := ⟨w.heap.size, 2, none⟩) (cell_block hr)).trans hr))
        obtain ⟨j, hj⟩ : ∃ j, f + t = j := ⟨_, rfl⟩
        rw [hj] at hlt hc KC ⊢
        have HJ := Lib.hid hj
        clear hj
        have x0 : (0 : Int) ≤ j := by omega
        have x1 : (j : Int) < m := by omega
        go_wp2_with fail
        go_region_held3 (fun w' => w'.cell? ⟨b0, o0 + j * 2, none⟩ = some (.int .i64 x) ∧ w'.cell? ⟨w.heap.size, 2, none⟩ = some (.string R.may)) (first | go_keep | exact ⟨hc, hr⟩ | exact KC.out _ (by assumption)) (first
          | (go_at_call 71; refine (HQ.out _).mono ?_; rintro e w4 ⟨rfl, hb4⟩; have hb5 := (below_draws (Below.refl wr.heap.size wr) 1).trans hb4; have hc4 := KC.out _ hb5))
        obtain ⟨c40, c41⟩ := hc4
        have HB5 := Lib.hid hb5
        have HBW := Lib.hid (HBR.out.trans (hb5.mono HBR.out.size))
        clear hb4 hb5 hc hr
        cases q
        · have hF : T = false := by
            rw [HTF.out]
            cases hd : okS R.may D
            · rfl
            · have h1 := ok_pre (t + 1) hd
              rw [HSN.out] at h1
              simp at h1
          subst hF
          have HBF := Lib.hid (HB0.out.trans ((HBC.out.trans (HBW.out.mono HBC.out.size)).mono HB0.out.size))
          go_wp2_with fail
          go_ret
          exact ⟨rfl, HBF.out⟩
        · have HSN2 : Hid (okS R.may (D.take (t + 1)) = decide (x ∉ D.take t)) := Lib.hid (by rw [HSN.out, Bool.true_and])
          clear HSN HQ
          go_wp2_with fail
          go_loopw [9] (fun k wk => ∃ u : Nat, u ≤ t ∧ k = .int .i64 ((f + u : Nat) : Int) ∧ (∀ v, v < u → D.getD v 0 ≠ x) ∧ ∃ nd, wk = w4.drewN nd) (fun k _ => m - (intOf k).toNat)
          case atStart => exact ⟨0, by omega, by simp, fun v h => absurd h (by omega), 0, rfl⟩
          case round =>
            obtain ⟨u, hu, rfl, hno, nd, rfl⟩ := hrel
            have HNO := Lib.hid hno
            clear hno
            by_cases hut : u < t
            · have hul : f + u < l.length := by have := HJ.out; omega
              obtain ⟨b1, o1, hA1, hcu, _⟩ := (KS.out _ HBW.out).at_ hul
              simp only [Option.some.injEq, Addr.mk.injEq, and_true] at hA1
              obtain ⟨rfl, rfl⟩ := hA1
              have hy := HDA.out u hul
              generalize (l[f + u]).id = y at *
              have HY := Lib.hid hy
              clear hy
              obtain ⟨k, hk⟩ : ∃ k, f + u = k := ⟨_, rfl⟩
              rw [hk] at hcu ⊢
              have hkj : (k : Int) < j := by have := HJ.out; omega
              have y0 : (0 : Int) ≤ k := by omega
              have y1 : (k : Int) < m := by omega
              have HK := Lib.hid hk
              clear hk
              have hcu : (w4.drewN nd).cell? ⟨b0, o0 + k * 2, none⟩ = some (.int .i64 y) := hcu
              have hcx : (w4.drewN nd).cell? ⟨b0, o0 + j * 2, none⟩ = some (.int .i64 x) := c40
              clear c40 c41
              by_cases hxy : y = x
              · have e1 : (y == x) = true := by simp [hxy]
                have hF : T = false := by
                  rw [HTF.out]
                  cases hd : okS R.may D
                  · rfl
                  · have h1 := ok_pre (t + 1) hd
                    rw [HSN2.out, decide_eq_true_eq] at h1
                    refine absurd ?_ h1
                    have hm2 : (D.take t)[u]? = some x := by rw [List.getElem?_take_of_lt hut, HY.out, hxy]
                    exact List.mem_of_getElem? hm2
                subst hF
                clear hxy
                have HBF := Lib.hid (HB0.out.trans ((HBC.out.trans (HBW.out.mono HBC.out.size)).mono HB0.out.size))
                go_wp2_with fail
                go_quiet (fail)
                go_wp2
                go_ret
                exact ⟨rfl, below_draws (below_draws HBF.out nd) nq⟩
              · have e1 : (y == x) = false := by simp [hxy]
                have HXY := Lib.hid hxy
                clear hxy
                go_wp2_with fail
                go_quiet (fail)
                go_wp2
                go_roundw
                case rel =>
                  refine ⟨u + 1, by omega, by have := HK.out; go_num, fun v hv => ?_, nd + nq, rfl⟩
                  by_cases hvu : v = u
                  · subst hvu
                    rw [List.getD_eq_getElem?_getD, HY.out]
                    exact HXY.out
                  · exact HNO.out v (by omega)
                case measure => have := HK.out; simp [intOf]; omega
            · obtain rfl : u = t := by omega
              have hnm := not_mem_take (D := D) (t := u) (x := x) (by rw [hDl]; have := HJ.out; omega) HNO.out
              have hok2 : okS R.may (D.take (u + 1)) = true := by rw [HSN2.out, decide_eq_true hnm]
              have HOK2 := Lib.hid hok2
              clear hok2 hnm HNO HSN2 c40 c41
              have hjj := HJ.out
              rw [hjj]
              have HJ2 := Lib.hid hjj
              clear hjj
              go_wp2
              go_roundw
              case rel => exact ⟨u + 1, by have := HJ2.out; omega, by have := HJ2.out; go_num, HOK2.out, below_draws HBW.out nd⟩
              case measure => have := HJ2.out; simp [intOf]; omega
      · have hft : f + t = m := by omega
        have hTt : T = true := by
          have h1 := HOK.out
          rw [List.take_of_length_le (by rw [hDl]; omega)] at h1
          rw [HTF.out, h1]
        subst hTt
        rw [hft]
        have HBF := Lib.hid (HB0.out.trans ((HBC.out.trans (HBR.out.mono HBC.out.size)).mono HB0.out.size))
        clear hft
        go_wp2
        go_ret
        exact ⟨rfl, HBF.out⟩
end Go.Proofs.YtamnhnleipnhdaaDoor

/-
  linesideref06.names, values.
-/
namespace Go.Proofs.YtamnhnleipnhdaaDoor

open Go.RowKit

def baseS (u : Bool) : List ByteArray := if u = true then [⟨#[84, 95, 84, 82, 65, 73, 78]⟩, ⟨#[78, 73, 68, 95, 69, 78, 71, 73, 78, 69]⟩] else [⟨#[84, 95, 84, 82, 65, 73, 78]⟩, ⟨#[77, 95, 65, 67, 75]⟩, ⟨#[78, 73, 68, 95, 76, 82, 66, 71]⟩]
def namesS (id : Int) (own : ByteArray) : List ByteArray := baseS (mup id) ++ wordsOf own
theorem names_vars {id : Int} (h : mknown id = true) : (namesS id (mrow id).own).map findOf = (mvars id).map (fun (v : Nat) => (v : Int)) := by
  unfold namesS mvars baseV
  rw [List.map_append, (mshape h).own, List.map_append]
  congr 1
  cases mup id
  · kernel_rfl
  · kernel_rfl

set_option maxRecDepth 100000 in
set_option maxHeartbeats 4000000 in
theorem names_any (id : Int) (R : MRow) (hs : R.own.size ≤ 65536) (w : World) :
    Calls Tryd.prog 32 #[.int .i64 id, rowV R] w fun e w' => ∃ A c, e = .returned (.slice A (namesS id R.own).length c) ∧ SlW w' A (namesS id R.own).length c (namesS id R.own) ∧ Below w.heap.size w w' := by
  have hw := fun W => words_any R.own hs W
  have hle : (wordsOf R.own).length ≤ 65537 := by
    have := (wstep_le R.own (R.own.size + 1)).2
    unfold wordsOf
    omega
  have hu := fun W => mup_any id W
  have hN : namesS id R.own = baseS (mup id) ++ wordsOf R.own := rfl
  rw [hN]
  clear hN
  generalize wordsOf R.own = L at *
  generalize mup id = u at *
  have HW := Lib.hid hw; have HU := Lib.hid hu
  clear hw hu hs
  obtain ⟨w0, hw0⟩ : ∃ w0, w.alloc (.cells #[.string R.own, .string R.must, .string R.may] 60) = w0 := ⟨_, rfl⟩
  have hb0 : Below w.heap.size w w0 := by rw [← hw0]; exact (Below.refl _ _).alloc (Nat.le_refl _) _
  have hsz : w.heap.size < w0.heap.size := by rw [← hw0]; simp
  have hh : Has w0 w.heap.size 60 #[.string R.own, .string R.must, .string R.may] := by rw [← hw0]; exact Has.made _ _ _
  have HH := Lib.hid hh
  have HB0 := Lib.hid hb0
  clear hh hb0
  unfold rowV
  go_enter Tryd.func32, Tryd.ntmps32
  go_wp2_with fail
  refine (HU.out _).mono ?_
  rintro e w1 ⟨rfl, hb1⟩
  have HB1 := Lib.hid (HB0.out.trans (hb1.mono HB0.out.size))
  have hc : ∀ W, Below w1.heap.size w1 W → W.cell? ⟨w.heap.size, 0, none⟩ = some (.string R.own) := fun W hW => by
    have h2 := (HH.out.under hb1 hsz).under hW (Nat.lt_of_lt_of_le hsz hb1.size)
    rw [h2.cell]; rfl
  have HC := Lib.hid hc
  have hs1 : w.heap.size < w1.heap.size := Nat.lt_of_lt_of_le hsz hb1.size
  clear hb1 hc hw0 HB0 HH
  cases u
  · have hcc := HC.out (w1.alloc (.cells #[.string ⟨#[84, 95, 84, 82, 65, 73, 78]⟩, .string ⟨#[77, 95, 65, 67, 75]⟩, .string ⟨#[78, 73, 68, 95, 76, 82, 66, 71]⟩] 9)) ((Below.refl _ _).alloc (Nat.le_refl _) _)
    go_wp2_with fail
    refine (HW.out _).mono ?_
    have hao : (w1.alloc (.cells #[.string ⟨#[84, 95, 84, 82, 65, 73, 78]⟩, .string ⟨#[77, 95, 65, 67, 75]⟩, .string ⟨#[78, 73, 68, 95, 76, 82, 66, 71]⟩] 9)).ownsRow w1.heap.size 9 1 (.slice (some ⟨w1.heap.size, 0, none⟩) 3 3) 3 [.string ⟨#[84, 95, 84, 82, 65, 73, 78]⟩, .string ⟨#[77, 95, 65, 67, 75]⟩, .string ⟨#[78, 73, 68, 95, 76, 82, 66, 71]⟩] := World.ownsRow_lit (base := w1.heap.size) (e := 9) (size := 1) w1 #[.string ⟨#[84, 95, 84, 82, 65, 73, 78]⟩, .string ⟨#[77, 95, 65, 67, 75]⟩, .string ⟨#[78, 73, 68, 95, 76, 82, 66, 71]⟩] 3 (Nat.le_refl _) (by unfold maxLen; omega) rfl
    have hsa : w1.heap.size < (w1.alloc (.cells #[.string ⟨#[84, 95, 84, 82, 65, 73, 78]⟩, .string ⟨#[77, 95, 65, 67, 75]⟩, .string ⟨#[78, 73, 68, 95, 76, 82, 66, 71]⟩] 9)).heap.size := by simp
    have hba := HB1.out.alloc HB1.out.size (.cells #[.string ⟨#[84, 95, 84, 82, 65, 73, 78]⟩, .string ⟨#[77, 95, 65, 67, 75]⟩, .string ⟨#[78, 73, 68, 95, 76, 82, 66, 71]⟩] 9)
    have HAO := Lib.hid hao; have HBA := Lib.hid hba
    have hs1a : w.heap.size ≤ w1.heap.size := by omega
    clear hcc hao hba
    generalize w1.alloc (.cells #[.string ⟨#[84, 95, 84, 82, 65, 73, 78]⟩, .string ⟨#[77, 95, 65, 67, 75]⟩, .string ⟨#[78, 73, 68, 95, 76, 82, 66, 71]⟩] 9) = wa at *
    rintro e w2 ⟨A2, c2, rfl, ho2, hb2⟩
    have HSL := Lib.hid (Sl.of_own ho2)
    have HB2 := Lib.hid (HBA.out.trans (hb2.mono HBA.out.size))
    have HO2 := Lib.hid (own_under HAO.out hb2 (Nat.le_refl _))
    have HOn := Lib.hid (strs_one L)
    have HBD : Hid (3 + L.length ≤ maxLen ∧ (3 + L.length) * 16 ≤ 140737488355328 ∧ w1.heap.size ≤ w2.heap.size) := ⟨by unfold maxLen; omega, by omega, Nat.le_trans (Nat.le_of_lt hsa) hb2.size⟩
    clear ho2 hb2 HAO HW HU
    go_wp2_with (with_reducible refine wpList_pour (o := ⟨some 16, _, _, _, _, _⟩) rfl (.tmp 12) (.tmp 15) 63 rfl w1.heap.size 9 (.string ⟨#[]⟩) 1 16 Tryd.underlying63 info_str ?hz (by decide) (some ⟨w1.heap.size, 0, none⟩) 3 3 [.string ⟨#[84, 95, 84, 82, 65, 73, 78]⟩, .string ⟨#[77, 95, 65, 67, 75]⟩, .string ⟨#[78, 73, 68, 95, 76, 82, 66, 71]⟩] ?hs HO2 A2 L.length c2 (strs L) ?hx HSL HOn HBD ?next)
    case hz => rfl
    case hs => rfl
    case hx => rfl
    case next =>
      intro A3 c3 w3 ho3 hg3
      have HB3 := Lib.hid (below_own HB2.out (Nat.le_trans hs1a HBD.out.2.2) HO2.out hs1a rfl hg3.out)
      have e3 : (baseS false ++ L).length = 3 + L.length := by simp [baseS]; omega
      have HR : Hid (SlW w3 A3 (3 + L.length) c3 (baseS false ++ L)) := Lib.hid ⟨e3, Sl.of_own ho3.out⟩
      rw [← e3] at HR
      have HE := Lib.hid e3
      clear e3
      go_wp2
      go_ret
      exact ⟨A3, c3, by rw [HE.out]; rfl, HR.out, HB3.out⟩
  · have hcc := HC.out ((w1.alloc (.cells #[.string ⟨#[84, 95, 84, 82, 65, 73, 78]⟩, .string ⟨#[77, 95, 65, 67, 75]⟩, .string ⟨#[78, 73, 68, 95, 76, 82, 66, 71]⟩] 9)).alloc (.cells #[.string ⟨#[84, 95, 84, 82, 65, 73, 78]⟩, .string ⟨#[78, 73, 68, 95, 69, 78, 71, 73, 78, 69]⟩] 9)) (((Below.refl _ _).alloc (Nat.le_refl _) _).alloc (by simp) _)
    go_wp2_with fail
    refine (HW.out _).mono ?_
    have hao : ((w1.alloc (.cells #[.string ⟨#[84, 95, 84, 82, 65, 73, 78]⟩, .string ⟨#[77, 95, 65, 67, 75]⟩, .string ⟨#[78, 73, 68, 95, 76, 82, 66, 71]⟩] 9)).alloc (.cells #[.string ⟨#[84, 95, 84, 82, 65, 73, 78]⟩, .string ⟨#[78, 73, 68, 95, 69, 78, 71, 73, 78, 69]⟩] 9)).ownsRow (w1.heap.size + 1) 9 1 (.slice (some ⟨(w1.heap.size + 1), 0, none⟩) 2 2) 2 [.string ⟨#[84, 95, 84, 82, 65, 73, 78]⟩, .string ⟨#[78, 73, 68, 95, 69, 78, 71, 73, 78, 69]⟩] := by
      have h := World.ownsRow_lit (base := (w1.heap.size + 1)) (e := 9) (size := 1) (w1.alloc (.cells #[.string ⟨#[84, 95, 84, 82, 65, 73, 78]⟩, .string ⟨#[77, 95, 65, 67, 75]⟩, .string ⟨#[78, 73, 68, 95, 76, 82, 66, 71]⟩] 9)) #[.string ⟨#[84, 95, 84, 82, 65, 73, 78]⟩, .string ⟨#[78, 73, 68, 95, 69, 78, 71, 73, 78, 69]⟩] 2 (by simp) (by unfold maxLen; omega) rfl
      simpa using h
    have hsa : (w1.heap.size + 1) < ((w1.alloc (.cells #[.string ⟨#[84, 95, 84, 82, 65, 73, 78]⟩, .string ⟨#[77, 95, 65, 67, 75]⟩, .string ⟨#[78, 73, 68, 95, 76, 82, 66, 71]⟩] 9)).alloc (.cells #[.string ⟨#[84, 95, 84, 82, 65, 73, 78]⟩, .string ⟨#[78, 73, 68, 95, 69, 78, 71, 73, 78, 69]⟩] 9)).heap.size := by simp
    have hba := (HB1.out.alloc HB1.out.size (.cells #[.string ⟨#[84, 95, 84, 82, 65, 73, 78]⟩, .string ⟨#[77, 95, 65, 67, 75]⟩, .string ⟨#[78, 73, 68, 95, 76, 82, 66, 71]⟩] 9)).alloc (by have := HB1.out.size; simp; omega) (.cells #[.string ⟨#[84, 95, 84, 82, 65, 73, 78]⟩, .string ⟨#[78, 73, 68, 95, 69, 78, 71, 73, 78, 69]⟩] 9)
    have HAO := Lib.hid hao; have HBA := Lib.hid hba
    have hs1a : w.heap.size ≤ (w1.heap.size + 1) := by omega
    clear hcc hao hba
    generalize (w1.alloc (.cells #[.string ⟨#[84, 95, 84, 82, 65, 73, 78]⟩, .string ⟨#[77, 95, 65, 67, 75]⟩, .string ⟨#[78, 73, 68, 95, 76, 82, 66, 71]⟩] 9)).alloc (.cells #[.string ⟨#[84, 95, 84, 82, 65, 73, 78]⟩, .string ⟨#[78, 73, 68, 95, 69, 78, 71, 73, 78, 69]⟩] 9) = wa at *
    rintro e w2 ⟨A2, c2, rfl, ho2, hb2⟩
    have HSL := Lib.hid (Sl.of_own ho2)
    have HB2 := Lib.hid (HBA.out.trans (hb2.mono HBA.out.size))
    have HO2 := Lib.hid (own_under HAO.out hb2 (Nat.le_refl _))
    have HOn := Lib.hid (strs_one L)
    have HBD : Hid (2 + L.length ≤ maxLen ∧ (2 + L.length) * 16 ≤ 140737488355328 ∧ (w1.heap.size + 1) ≤ w2.heap.size) := ⟨by unfold maxLen; omega, by omega, Nat.le_trans (Nat.le_of_lt hsa) hb2.size⟩
    clear ho2 hb2 HAO HW HU
    go_wp2_with (with_reducible refine wpList_pour (o := ⟨some 16, _, _, _, _, _⟩) rfl (.tmp 12) (.tmp 15) 63 rfl (w1.heap.size + 1) 9 (.string ⟨#[]⟩) 1 16 Tryd.underlying63 info_str ?hz (by decide) (some ⟨(w1.heap.size + 1), 0, none⟩) 2 2 [.string ⟨#[84, 95, 84, 82, 65, 73, 78]⟩, .string ⟨#[78, 73, 68, 95, 69, 78, 71, 73, 78, 69]⟩] ?hs HO2 A2 L.length c2 (strs L) ?hx HSL HOn HBD ?next)
    case hz => rfl
    case hs => rfl
    case hx => rfl
    case next =>
      intro A3 c3 w3 ho3 hg3
      have HB3 := Lib.hid (below_own HB2.out (Nat.le_trans hs1a HBD.out.2.2) HO2.out hs1a rfl hg3.out)
      have e3 : (baseS true ++ L).length = 2 + L.length := by simp [baseS]; omega
      have HR : Hid (SlW w3 A3 (2 + L.length) c3 (baseS true ++ L)) := Lib.hid ⟨e3, Sl.of_own ho3.out⟩
      rw [← e3] at HR
      have HE := Lib.hid e3
      clear e3
      go_wp2
      go_ret
      exact ⟨A3, c3, by rw [HE.out]; rfl, HR.out, HB3.out⟩
end Go.Proofs.YtamnhnleipnhdaaDoor

/-
  linesideref06.values, Light.
-/
namespace Go.Proofs.YtamnhnleipnhdaaDoor

open Go.RowKit

/-- A message as a value. -/
def msgCells (id t a o : Int) (A : Option Addr) (n c : Nat) (B : Option Addr) (m d : Nat) : Array Value := #[.int .i64 id, .int .i64 t, .int .i64 a, .int .i64 o, .slice A n c, .slice B m d]
def msgV (id t a o : Int) (A : Option Addr) (n c : Nat) (B : Option Addr) (m d : Nat) : Value := .agg (msgCells id t a o A n c B m d)
def valsL (u : Bool) (t a o : Int) (V : List Int) : List Int := (if u = true then [t, o] else [t, a, o]) ++ V
theorem vals_of (m : Msg) : mvals m = valsL (mup m.id) m.t m.ack m.of_ m.V := rfl

set_option maxRecDepth 100000 in
set_option maxHeartbeats 4000000 in
theorem values_any (id t a o : Int) (A : Option Addr) (n c : Nat) (B : Option Addr) (m d : Nat) (V : List Int) (w : World) (hV : SlI w.heap.size w A n c V) (hn : n ≤ 1048576) :
    Calls Tryd.prog 33 #[msgV id t a o A n c B m d] w fun e w' => ∃ A' c', e = .returned (.slice A' (valsL (mup id) t a o V).length c') ∧ SlN w' A' (valsL (mup id) t a o V).length c' (valsL (mup id) t a o V) ∧ Below w.heap.size w w' := by
  have hu := fun W => mup_any id W
  have HVL := Lib.hid hV.len
  generalize mup id = u at *
  have HU := Lib.hid hu
  clear hu
  obtain ⟨w0, hw0⟩ : ∃ w0, w.alloc (.cells #[.int .i64 id, .int .i64 t, .int .i64 a, .int .i64 o, .slice A n c, .slice B m d] 25) = w0 := ⟨_, rfl⟩
  have hb0 : Below w.heap.size w w0 := by rw [← hw0]; exact (Below.refl _ _).alloc (Nat.le_refl _) _
  have hsz : w.heap.size < w0.heap.size := by rw [← hw0]; simp
  have hh : Has w0 w.heap.size 25 #[.int .i64 id, .int .i64 t, .int .i64 a, .int .i64 o, .slice A n c, .slice B m d] := by rw [← hw0]; exact Has.made _ _ _
  have HH := Lib.hid hh
  have HB0 := Lib.hid hb0
  have HV := Lib.hid (fun W (hW : Below w.heap.size w W) => sliUnder hV hW)
  have k0 : w0.cell? ⟨w.heap.size, 0, none⟩ = some (.int .i64 id) := by rw [hh.cell]; rfl
  clear hh hb0 hV
  unfold msgV msgCells
  go_enter Tryd.func33, Tryd.ntmps33
  go_wp2_with fail
  refine (HU.out _).mono ?_
  rintro e w1 ⟨rfl, hb1⟩
  have HB1 := Lib.hid (HB0.out.trans (hb1.mono HB0.out.size))
  have hc : ∀ W, Below w1.heap.size w1 W → W.cell? ⟨w.heap.size, 0, none⟩ = some (.int .i64 id) ∧ W.cell? ⟨w.heap.size, 1, none⟩ = some (.int .i64 t) ∧ W.cell? ⟨w.heap.size, 2, none⟩ = some (.int .i64 a) ∧ W.cell? ⟨w.heap.size, 3, none⟩ = some (.int .i64 o) ∧ W.cell? ⟨w.heap.size, 4, none⟩ = some (.slice A n c) := fun W hW => by
    have h2 := (HH.out.under hb1 hsz).under hW (Nat.lt_of_lt_of_le hsz hb1.size)
    rw [h2.cell, h2.cell, h2.cell, h2.cell, h2.cell]
    exact ⟨rfl, rfl, rfl, rfl, rfl⟩
  have HC := Lib.hid hc
  have hs1 : w.heap.size < w1.heap.size := Nat.lt_of_lt_of_le hsz hb1.size
  obtain ⟨q0, q1, q2, q3, q4⟩ := hc w1 (Below.refl _ _)
  clear hb1 hc hw0 HB0 HH k0
  cases u
  · have hao : (w1.alloc (.cells #[.int .i64 t, .int .i64 a, .int .i64 o] 3)).ownsRow w1.heap.size 3 1 (.slice (some ⟨w1.heap.size, 0, none⟩) 3 3) 3 [.int .i64 t, .int .i64 a, .int .i64 o] := World.ownsRow_lit (base := w1.heap.size) (e := 3) (size := 1) w1 #[.int .i64 t, .int .i64 a, .int .i64 o] 3 (Nat.le_refl _) (by unfold maxLen; omega) rfl
    have hsa : w1.heap.size < (w1.alloc (.cells #[.int .i64 t, .int .i64 a, .int .i64 o] 3)).heap.size := by simp
    have hba := HB1.out.alloc HB1.out.size (.cells #[.int .i64 t, .int .i64 a, .int .i64 o] 3)
    have hcw := HC.out (w1.alloc (.cells #[.int .i64 t, .int .i64 a, .int .i64 o] 3)) ((Below.refl _ _).alloc (Nat.le_refl _) _)
    obtain ⟨k0, k1, k2, k3, k4⟩ := hcw
    have HAO := Lib.hid hao; have HBA := Lib.hid hba
    have HSL : Hid (Sl (w1.alloc (.cells #[.int .i64 t, .int .i64 a, .int .i64 o] 3)) 1 A n c (ints V)) := Lib.hid (((HV.out _ HB1.out).sl.beside _))
    have hs1a : w.heap.size ≤ w1.heap.size := by omega
    have HOn := Lib.hid (ints_one V)
    have HBD : Hid (3 + n ≤ maxLen ∧ (3 + n) * 8 ≤ 140737488355328 ∧ w1.heap.size ≤ (w1.alloc (.cells #[.int .i64 t, .int .i64 a, .int .i64 o] 3)).heap.size) := ⟨by unfold maxLen; omega, by omega, Nat.le_of_lt hsa⟩
    clear hao hba HU
    go_wp2_with (with_reducible refine wpList_pour (o := ⟨some 24, _, _, _, _, _⟩) rfl (.tmp 21) (.tmp 23) 22 rfl w1.heap.size 3 (.int .i64 0) 1 8 Tryd.underlying22 info_int ?hz (by decide) (some ⟨w1.heap.size, 0, none⟩) 3 3 [.int .i64 t, .int .i64 a, .int .i64 o] ?hs HAO A n c (ints V) ?hx HSL HOn HBD ?next)
    case hz => rfl
    case hs => rfl
    case hx => rfl
    case next =>
      intro A3 c3 w3 ho3 hg3
      have HB3 := Lib.hid (below_own HBA.out (Nat.le_trans hs1a HBD.out.2.2) HAO.out hs1a rfl hg3.out)
      have e3 : (valsL false t a o V).length = 3 + n := by simp [valsL, HVL.out]; omega
      have HR : Hid (SlN w3 A3 (3 + n) c3 (valsL false t a o V)) := Lib.hid ⟨e3, Sl.of_own ho3.out⟩
      rw [← e3] at HR
      have HE := Lib.hid e3
      clear e3
      go_wp2
      go_ret
      exact ⟨A3, c3, by rw [HE.out]; rfl, HR.out, HB3.out⟩
  · have hcm := HC.out (w1.alloc (.cells #[.int .i64 t, .int .i64 a, .int .i64 o] 3)) ((Below.refl _ _).alloc (Nat.le_refl _) _)
    obtain ⟨p0, p1, p2, p3, p4⟩ := hcm
    have hao : ((w1.alloc (.cells #[.int .i64 t, .int .i64 a, .int .i64 o] 3)).alloc (.cells #[.int .i64 t, .int .i64 o] 3)).ownsRow (w1.heap.size + 1) 3 1 (.slice (some ⟨(w1.heap.size + 1), 0, none⟩) 2 2) 2 [.int .i64 t, .int .i64 o] := by
      have h := World.ownsRow_lit (base := (w1.heap.size + 1)) (e := 3) (size := 1) (w1.alloc (.cells #[.int .i64 t, .int .i64 a, .int .i64 o] 3)) #[.int .i64 t, .int .i64 o] 2 (by simp) (by unfold maxLen; omega) rfl
      simpa using h
    have hsa : (w1.heap.size + 1) < ((w1.alloc (.cells #[.int .i64 t, .int .i64 a, .int .i64 o] 3)).alloc (.cells #[.int .i64 t, .int .i64 o] 3)).heap.size := by simp
    have hba := (HB1.out.alloc HB1.out.size (.cells #[.int .i64 t, .int .i64 a, .int .i64 o] 3)).alloc (by have := HB1.out.size; simp; omega) (.cells #[.int .i64 t, .int .i64 o] 3)
    have hcw := HC.out ((w1.alloc (.cells #[.int .i64 t, .int .i64 a, .int .i64 o] 3)).alloc (.cells #[.int .i64 t, .int .i64 o] 3)) (((Below.refl _ _).alloc (Nat.le_refl _) _).alloc (by simp) _)
    obtain ⟨k0, k1, k2, k3, k4⟩ := hcw
    have HAO := Lib.hid hao; have HBA := Lib.hid hba
    have HSL : Hid (Sl ((w1.alloc (.cells #[.int .i64 t, .int .i64 a, .int .i64 o] 3)).alloc (.cells #[.int .i64 t, .int .i64 o] 3)) 1 A n c (ints V)) := Lib.hid (((HV.out _ HB1.out).sl.beside _).beside _)
    have hs1a : w.heap.size ≤ (w1.heap.size + 1) := by omega
    have HOn := Lib.hid (ints_one V)
    have HBD : Hid (2 + n ≤ maxLen ∧ (2 + n) * 8 ≤ 140737488355328 ∧ (w1.heap.size + 1) ≤ ((w1.alloc (.cells #[.int .i64 t, .int .i64 a, .int .i64 o] 3)).alloc (.cells #[.int .i64 t, .int .i64 o] 3)).heap.size) := ⟨by unfold maxLen; omega, by omega, Nat.le_of_lt hsa⟩
    clear hao hba HU
    go_wp2_with (with_reducible refine wpList_pour (o := ⟨some 24, _, _, _, _, _⟩) rfl (.tmp 21) (.tmp 23) 22 rfl (w1.heap.size + 1) 3 (.int .i64 0) 1 8 Tryd.underlying22 info_int ?hz (by decide) (some ⟨(w1.heap.size + 1), 0, none⟩) 2 2 [.int .i64 t, .int .i64 o] ?hs HAO A n c (ints V) ?hx HSL HOn HBD ?next)
    case hz => rfl
    case hs => rfl
    case hx => rfl
    case next =>
      intro A3 c3 w3 ho3 hg3
      have HB3 := Lib.hid (below_own HBA.out (Nat.le_trans hs1a HBD.out.2.2) HAO.out hs1a rfl hg3.out)
      have e3 : (valsL true t a o V).length = 2 + n := by simp [valsL, HVL.out]; omega
      have HR : Hid (SlN w3 A3 (2 + n) c3 (valsL true t a o V)) := Lib.hid ⟨e3, Sl.of_own ho3.out⟩
      rw [← e3] at HR
      have HE := Lib.hid e3
      clear e3
      go_wp2
      go_ret
      exact ⟨A3, c3, by rw [HE.out]; rfl, HR.out, HB3.out⟩
end Go.Proofs.YtamnhnleipnhdaaDoor

/-
  linesideref06.Light, Same.
-/
namespace Go.Proofs.YtamnhnleipnhdaaDoor

open Go.RowKit

def lightF (n m : Nat) (l : List PkE) : Bool := decide (n ≤ 30) && decide (m ≤ 30) && l.all fun p => decide (p.n ≤ 3000)
theorem msg_has (w : World) (cs : Array Value) : Has (w.alloc (.cells cs 25)) w.heap.size 25 cs := Has.made _ _ _

set_option maxRecDepth 100000 in
set_option maxHeartbeats 4000000 in
theorem light_any (id t a o : Int) (A : Option Addr) (n c : Nat) (B : Option Addr) (m d : Nat) (l : List PkE) (w : World) (hl : SlK w B m d l) :
    Calls Tryd.prog 11 #[msgV id t a o A n c B m d] w fun e w' => e = .returned (.bool (lightF n m l)) ∧ Below w.heap.size w w' := by
  obtain ⟨T, hT⟩ : ∃ T, lightF n m l = T := ⟨_, rfl⟩
  rw [hT]
  have HT := Lib.hid hT; clear hT
  obtain ⟨w0, hw0⟩ : ∃ w0, w.alloc (.cells #[.int .i64 id, .int .i64 t, .int .i64 a, .int .i64 o, .slice A n c, .slice B m d] 25) = w0 := ⟨_, rfl⟩
  have hb0 : Below w.heap.size w w0 := by rw [← hw0]; exact (Below.refl _ _).alloc (Nat.le_refl _) _
  have hh : Has w0 w.heap.size 25 #[.int .i64 id, .int .i64 t, .int .i64 a, .int .i64 o, .slice A n c, .slice B m d] := by rw [← hw0]; exact Has.made _ _ _
  have HL := Lib.hid (hl.under hb0)
  have HLN := Lib.hid hl.len
  have HB0 := Lib.hid hb0
  have k4 : w0.cell? ⟨w.heap.size, 4, none⟩ = some (.slice A n c) := by rw [hh.cell]; rfl
  have k5 : w0.cell? ⟨w.heap.size, 5, none⟩ = some (.slice B m d) := by rw [hh.cell]; rfl
  clear hl hb0 hh
  unfold msgV msgCells
  by_cases h1 : n ≤ 30
  · by_cases h2 : m ≤ 30
    · have hTT : T = l.all (fun p => decide (p.n ≤ 3000)) := by have := HT.out; unfold lightF at this; rw [decide_eq_true h1, decide_eq_true h2] at this; simpa using this.symm
      have HTT := Lib.hid hTT; clear hTT HT
      have x1 : ¬ (30 : Int) < n := by omega
      have x2 : ¬ (30 : Int) < m := by omega
      go_enter Tryd.func11, Tryd.ntmps11
      go_wp2
      go_loopw [3] (fun i wr => ∃ j : Nat, j ≤ m ∧ i = .int .i64 (j : Nat) ∧ (l.take j).all (fun p => decide (p.n ≤ 3000)) = true ∧ wr = w0) (fun i _ => m - (intOf i).toNat)
      case atStart => exact ⟨0, by omega, rfl, rfl, rfl⟩
      case round =>
        obtain ⟨j, hj, rfl, hok, rfl⟩ := hrel
        have HOK := Lib.hid hok; clear hok
        have hln := HLN.out
        by_cases hlt : j < m
        · have hjl : j < l.length := by omega
          obtain ⟨b0, o0, rfl, hci, hc⟩ := HL.out.at_ (j := j) hjl
          clear hci
          have hst : (l.take (j + 1)).all (fun p => decide (p.n ≤ 3000)) = decide (l[j].n ≤ 3000) := by
            rw [List.take_succ_eq_append_getElem hjl, List.all_append, HOK.out]; simp
          have hF : decide (l[j].n ≤ 3000) = false → T = false := fun h => by
            rw [HTT.out, List.all_eq_false]
            exact ⟨l[j], List.getElem_mem hjl, by simpa using h⟩
          generalize l[j].n = N at *
          generalize l[j].A = XA at *
          generalize l[j].c = XC at *
          have HST := Lib.hid hst; have HF := Lib.hid hF
          clear hst hF hjl hln
          have x3 : (0 : Int) ≤ j := by omega
          have x4 : (j : Int) < m := by omega
          by_cases hN : N ≤ 3000
          · have x5 : ¬ (3000 : Int) < N := by omega
            go_wp2
            go_roundw
            case rel => exact ⟨j + 1, by omega, by go_num, by rw [HST.out, decide_eq_true hN], trivial⟩
            case measure => simp [intOf]; omega
          · have x5 : (3000 : Int) < N := by omega
            have hTf := HF.out (decide_eq_false hN)
            subst hTf
            go_wp2
            go_ret
            exact ⟨rfl, HB0.out⟩
        · obtain rfl : j = m := by omega
          have hTt : T = true := by
            have := HOK.out
            rw [List.take_of_length_le (by omega)] at this
            rw [HTT.out, this]
          subst hTt
          go_wp2
          go_ret
          exact ⟨rfl, HB0.out⟩
    · have hTT : T = false := by have := HT.out; unfold lightF at this; rw [decide_eq_true h1, decide_eq_false h2] at this; simpa using this.symm
      subst hTT
      have x1 : ¬ (30 : Int) < n := by omega
      have x2 : (30 : Int) < m := by omega
      go_enter Tryd.func11, Tryd.ntmps11
      go_wp2
      go_ret
      exact ⟨rfl, HB0.out⟩
  · have hTT : T = false := by have := HT.out; unfold lightF at this; rw [decide_eq_false h1] at this; simpa using this.symm
    subst hTT
    have x1 : (30 : Int) < n := by omega
    go_enter Tryd.func11, Tryd.ntmps11
    go_wp2
    go_ret
    exact ⟨rfl, HB0.out⟩
end Go.Proofs.YtamnhnleipnhdaaDoor

/-
  linesideref06.Same.
-/
namespace Go.Proofs.YtamnhnleipnhdaaDoor

open Go.RowKit

def msgOf (id t a o : Int) (V : List Int) (l : List PkE) : Msg := ⟨id, t, a, o, V, pkPlain l⟩
theorem mplain_at (l : List PkE) (j : Nat) (h : j < l.length) : (pkPlain l)[j]? = some (l[j].id, l[j].V) := by simp [pkPlain, h]
theorem plain_len (l : List PkE) : (pkPlain l).length = l.length := by simp [pkPlain]
theorem sln_of {base : Nat} {w : World} {A : Option Addr} {n c : Nat} {V : List Int} (h : SlI base w A n c V) : SlN w A n c V := ⟨h.len, h.sl⟩

set_option maxRecDepth 100000 in
set_option maxHeartbeats 8000000 in
theorem msame_any (id t a o : Int) (A : Option Addr) (n c : Nat) (B : Option Addr) (m d : Nat) (V : List Int) (l : List PkE) (id' t' a' o' : Int) (A' : Option Addr) (n' c' : Nat) (B' : Option Addr) (m' d' : Nat) (V' : List Int) (l' : List PkE) (w : World)
    (hV : SlN w A n c V) (hl : SlK w B m d l) (hV' : SlN w A' n' c' V') (hl' : SlK w B' m' d' l') (hn : n ≤ 1048576) (hn' : n' ≤ 1048576) (hm : m ≤ 1048576) (hk : ∀ p ∈ l, p.n ≤ 1048576) (hk' : ∀ p ∈ l', p.n ≤ 1048576) :
    Calls Tryd.prog 20 #[msgV id t a o A n c B m d, msgV id' t' a' o' A' n' c' B' m' d'] w fun e w' => (∃ T, e = .returned (.bool T) ∧ (T = true ↔ msgOf id t a o V l = msgOf id' t' a' o' V' l')) ∧ Below w.heap.size w w' := by
  obtain ⟨S, hS⟩ : ∃ S : Prop, (msgOf id t a o V l = msgOf id' t' a' o' V' l') = S := ⟨_, rfl⟩
  rw [hS]
  have hSS : S ↔ (V = V' ∧ id = id' ∧ t = t' ∧ a = a' ∧ o = o' ∧ pkPlain l = pkPlain l') := by
    rw [← hS]
    constructor
    · intro h
      injection h with e1 e2 e3 e4 e5 e6
      exact ⟨e5, e1, e2, e3, e4, e6⟩
    · rintro ⟨rfl, rfl, rfl, rfl, rfl, h⟩
      simp only [msgOf, h]
  have HS := Lib.hid hSS; clear hS hSS
  obtain ⟨w0, hw0⟩ : ∃ w0, (w.alloc (.cells #[.int .i64 id, .int .i64 t, .int .i64 a, .int .i64 o, .slice A n c, .slice B m d] 25)).alloc (.cells #[.int .i64 id', .int .i64 t', .int .i64 a', .int .i64 o', .slice A' n' c', .slice B' m' d'] 25) = w0 := ⟨_, rfl⟩
  have hb0 : Below w.heap.size w w0 := by rw [← hw0]; exact ((Below.refl _ _).alloc (Nat.le_refl _) _).alloc (by simp) _
  have hsz : w.heap.size + 1 < w0.heap.size := by rw [← hw0]; simp
  have hh1 : Has w0 w.heap.size 25 #[.int .i64 id, .int .i64 t, .int .i64 a, .int .i64 o, .slice A n c, .slice B m d] := by rw [← hw0]; exact (Has.made w _ _).beside _
  have hh2 : Has w0 (w.heap.size + 1) 25 #[.int .i64 id', .int .i64 t', .int .i64 a', .int .i64 o', .slice A' n' c', .slice B' m' d'] := by
    have h := Has.made (w.alloc (.cells #[.int .i64 id, .int .i64 t, .int .i64 a, .int .i64 o, .slice A n c, .slice B m d] 25)) 25 #[.int .i64 id', .int .i64 t', .int .i64 a', .int .i64 o', .slice A' n' c', .slice B' m' d']
    rw [hw0] at h
    simpa using h
  have HI := Lib.hid (ints_any A A' n c n' c' V V' w0 (hV.under hb0) (hV'.under hb0) hn hn')
  have HL := Lib.hid (hl.under hb0)
  have HL' := Lib.hid (hl'.under hb0)
  have HB0 := Lib.hid hb0
  have HK := Lib.hid hk; have HK' := Lib.hid hk'
  obtain ⟨p4, p5⟩ : w0.cell? ⟨w.heap.size, 4, none⟩ = some (.slice A n c) ∧ w0.cell? ⟨w.heap.size + 1, 4, none⟩ = some (.slice A' n' c') := by rw [hh1.cell, hh2.cell]; exact ⟨rfl, rfl⟩
  have hc : ∀ W, Below w0.heap.size w0 W → (W.cell? ⟨w.heap.size, 0, none⟩ = some (.int .i64 id) ∧ W.cell? ⟨w.heap.size, 1, none⟩ = some (.int .i64 t) ∧ W.cell? ⟨w.heap.size, 2, none⟩ = some (.int .i64 a) ∧ W.cell? ⟨w.heap.size, 3, none⟩ = some (.int .i64 o) ∧ W.cell? ⟨w.heap.size, 5, none⟩ = some (.slice B m d)) ∧
      (W.cell? ⟨w.heap.size + 1, 0, none⟩ = some (.int .i64 id') ∧ W.cell? ⟨w.heap.size + 1, 1, none⟩ = some (.int .i64 t') ∧ W.cell? ⟨w.heap.size + 1, 2, none⟩ = some (.int .i64 a') ∧ W.cell? ⟨w.heap.size + 1, 3, none⟩ = some (.int .i64 o') ∧ W.cell? ⟨w.heap.size + 1, 5, none⟩ = some (.slice B' m' d')) := fun W hW => by
    have h1 := hh1.under hW (by omega)
    have h2 := hh2.under hW (by omega)
    rw [h1.cell, h1.cell, h1.cell, h1.cell, h1.cell, h2.cell, h2.cell, h2.cell, h2.cell, h2.cell]
    exact ⟨⟨rfl, rfl, rfl, rfl, rfl⟩, rfl, rfl, rfl, rfl, rfl⟩
  have HC := Lib.hid hc
  clear hb0 hh1 hh2 hc hV hV' hl hl' hk hk'
  unfold msgV msgCells
  go_enter Tryd.func20, Tryd.ntmps20
  go_wp2_with fail
  refine HI.out.mono ?_
  rintro e w1 ⟨rfl, q, rfl⟩
  obtain ⟨⟨c0, c1, c2, c3, c5⟩, d0, d1, d2, d3, d5⟩ := HC.out (w0.drewN q) (below_draws (Below.refl _ _) q)
  have HBF := Lib.hid (below_draws HB0.out q)
  clear hw0 p4 p5 HI
  by_cases hv : V = V'
  · have ev : decide (V = V') = true := decide_eq_true hv
    rw [ev]
    have HV := Lib.hid hv
    clear hv ev
    by_cases hx : id = id'
    · subst hx
      by_cases hx : t = t'
      · subst hx
        by_cases hx : a = a'
        · subst hx
          by_cases hx : o = o'
          · subst hx
            by_cases hx : m = m'
            · subst hx
              have HLN := Lib.hid HL.out.len
              have HLN' := Lib.hid HL'.out.len
              have HD := Lib.hid (below_draws (Below.refl w0.heap.size w0) q)
              clear c0 c1 c2 c3 c5 d0 d1 d2 d3 d5
              generalize w0.drewN q = w1 at *
              obtain ⟨⟨c0, c1, c2, c3, c5⟩, d0, d1, d2, d3, d5⟩ := HC.out w1 HD.out
              go_wp2
              go_loopw [6] (fun i wr => ∃ j : Nat, j ≤ m ∧ i = .int .i64 (j : Nat) ∧ (∀ v, v < j → (pkPlain l)[v]? = (pkPlain l')[v]?) ∧ Below w0.heap.size w0 wr) (fun i _ => m - (intOf i).toNat)
              case atStart => exact ⟨0, by omega, rfl, fun v h => absurd h (by omega), HD.out⟩
              case round =>
                obtain ⟨j, hj, rfl, hok, hb⟩ := hrel
                have HOK := Lib.hid hok; have HBR := Lib.hid hb
                clear hok hb c0 c1 c2 c3 c5 d0 d1 d2 d3 d5
                obtain ⟨⟨c0, c1, c2, c3, c5⟩, d0, d1, d2, d3, d5⟩ := HC.out wr HBR.out
                clear c0 c1 c2 c3 d0 d1 d2 d3
                by_cases hlt : j < m
                · have hj1 : j < l.length := by have := HLN.out; omega
                  have hj2 : j < l'.length := by have := HLN'.out; omega
                  obtain ⟨b0, o0, rfl, f0, f1⟩ := (HL.out.under HBR.out).at_ hj1
                  obtain ⟨b1, o1, rfl, g0, g1⟩ := (HL'.out.under HBR.out).at_ hj2
                  have e1 := (HL.out.under HBR.out).each l[j] (List.getElem_mem hj1)
                  have e2 := (HL'.out.under HBR.out).each l'[j] (List.getElem_mem hj2)
                  have hn1 := HK.out l[j] (List.getElem_mem hj1)
                  have hn2 := HK'.out l'[j] (List.getElem_mem hj2)
                  have r1 := mplain_at l j hj1
                  have r2 := mplain_at l' j hj2
                  have HR1 := Lib.hid r1; have HR2 := Lib.hid r2
                  clear r1 r2
                  have HQ := Lib.hid (fun W (hW : Below wr.heap.size wr W) => same_any l[j].id l'[j].id l[j].A l'[j].A l[j].n l[j].c l'[j].n l'[j].c l[j].V l'[j].V W (sln_of (sliUnder e1 hW)) (sln_of (sliUnder e2 hW)) hn1 hn2)
                  clear e1 e2 hn1 hn2
                  unfold pkV at HQ
                  generalize l[j] = X at *
                  generalize l'[j] = Y at *
                  clear hj1 hj2
                  obtain ⟨xi, xA, xn, xc, xV⟩ := X
                  obtain ⟨yi, yA, yn, yc, yV⟩ := Y
                  simp only at f0 f1 g0 g1 HQ HR1 HR2
                  have HS1 : Hid ((decide (xV = yV) && decide (xi = yi)) = true ↔ (pkPlain l)[j]? = (pkPlain l')[j]?) := Lib.hid (by
                    rw [HR1.out, HR2.out]
                    simp only [Bool.and_eq_true, decide_eq_true_eq, Option.some.injEq, Prod.mk.injEq]
                    exact And.comm)
                  generalize (decide (xV = yV) && decide (xi = yi)) = b at *
                  have KC := Lib.hid (fun W (hW : Below wr.heap.size wr W) => And.intro ((hW.cell (p := ⟨w.heap.size, 5, none⟩) (cell_block c5)).trans c5) (And.intro ((hW.cell (p := ⟨w.heap.size + 1, 5, none⟩) (cell_block d5)).trans d5) (And.intro ((hW.cell (p := ⟨b0, o0 + j * 2, none⟩) (cell_block f0)).trans f0) (And.intro ((hW.cell (p := ⟨b0, o0 + j * 2 + 1, none⟩) (cell_block f1)).trans f1) (And.intro ((hW.cell (p := ⟨b1, o1 + j * 2, none⟩) (cell_block g0)).trans g0) ((hW.cell (p := ⟨b1, o1 + j * 2 + 1, none⟩) (cell_block g1)).trans g1))))))
                  have x0 : (0 : Int) ≤ j := by omega
                  have x1 : (j : Int) < m := by omega
                  go_wp2_with fail
                  go_region_held3 (fun w' => w'.cell? ⟨w.heap.size, 5, none⟩ = some (.slice (some ⟨b0, o0, none⟩) m d) ∧ w'.cell? ⟨w.heap.size + 1, 5, none⟩ = some (.slice (some ⟨b1, o1, none⟩) m d') ∧ w'.cell? ⟨b0, o0 + j * 2, none⟩ = some (.int .i64 xi) ∧ w'.cell? ⟨b0, o0 + j * 2 + 1, none⟩ = some (.slice xA xn xc) ∧ w'.cell? ⟨b1, o1 + j * 2, none⟩ = some (.int .i64 yi) ∧ w'.cell? ⟨b1, o1 + j * 2 + 1, none⟩ = some (.slice yA yn yc)) (first | go_keep | exact KC.out _ (Below.refl _ _) | exact KC.out _ (by assumption)) (first
                    | (go_at_call 51; refine (HQ.out _ (below_draws (Below.refl _ _) 1)).mono ?_; rintro e w4 ⟨rfl, hb4⟩; have hb5 := (below_draws (Below.refl wr.heap.size wr) 1).trans hb4; have hc4 := KC.out _ hb5))
                  have HB5 := Lib.hid hb5
                  have HBW := Lib.hid (HBR.out.trans (hb5.mono HBR.out.size))
                  have HBX := Lib.hid (HB0.out.trans (HBW.out.mono HB0.out.size))
                  clear hb4 hb5 hc4 c5 d5 f0 f1 g0 g1
                  cases b
                  · have hS : ¬ S := fun h => by
                      have h2 := (HS.out.1 h).2.2.2.2.2
                      have h3 := HS1.out.2 (by rw [h2])
                      cases h3
                    have HSF := Lib.hid hS
                    clear hS
                    go_wp2
                    go_ret
                    exact ⟨⟨false, rfl, by simpa using HSF.out⟩, HBX.out⟩
                  · have h3 := Lib.hid (HS1.out.1 rfl)
                    go_wp2
                    go_roundw
                    case rel =>
                      refine ⟨j + 1, by omega, by go_num, fun v hv => ?_, HBW.out⟩
                      by_cases hvj : v = j
                      · subst hvj; exact h3.out
                      · exact HOK.out v (by omega)
                    case measure => simp [intOf]; omega
                · obtain rfl : j = m := by omega
                  have hS : S := by
                    refine HS.out.2 ⟨HV.out, trivial, trivial, trivial, trivial, ?_⟩
                    apply List.ext_getElem?
                    intro v
                    by_cases hv : v < j
                    · exact HOK.out v hv
                    · rw [List.getElem?_eq_none (by rw [plain_len]; have := HLN.out; omega), List.getElem?_eq_none (by rw [plain_len]; have := HLN'.out; omega)]
                  have HSS := Lib.hid hS
                  have HBX := Lib.hid (HB0.out.trans (HBR.out.mono HB0.out.size))
                  clear hS
                  go_wp2
                  go_ret
                  exact ⟨⟨true, rfl, by simpa using HSS.out⟩, HBX.out⟩
            · have e1 : ((m : Int) == (m' : Int)) = false := by rw [beq_eq_false_iff_ne]; omega
              have e2 : ((m : Int) != (m' : Int)) = true := by simp; omega
              have HSF : Hid (¬ S) := Lib.hid fun h => by
                have h2 := congrArg List.length (HS.out.1 h).2.2.2.2.2
                rw [plain_len, plain_len, HL.out.len, HL'.out.len] at h2
                exact hx h2
              clear hx HS
              go_wp2
              go_ret
              exact ⟨⟨false, rfl, by simpa using HSF.out⟩, HBF.out⟩
          · have e1 : (o == o') = false := by simp [hx]
            have e2 : (o != o') = true := by simp [hx]
            have HSF : Hid (¬ S) := Lib.hid fun h => hx ((HS.out.1 h).2.2.2.2.1)
            clear hx HS
            go_wp2
            go_ret
            exact ⟨⟨false, rfl, by simpa using HSF.out⟩, HBF.out⟩
        · have e1 : (a == a') = false := by simp [hx]
          have e2 : (a != a') = true := by simp [hx]
          have HSF : Hid (¬ S) := Lib.hid fun h => hx ((HS.out.1 h).2.2.2.1)
          clear hx HS
          go_wp2
          go_ret
          exact ⟨⟨false, rfl, by simpa using HSF.out⟩, HBF.out⟩
      · have e1 : (t == t') = false := by simp [hx]
        have e2 : (t != t') = true := by simp [hx]
        have HSF : Hid (¬ S) := Lib.hid fun h => hx ((HS.out.1 h).2.2.1)
        clear hx HS
        go_wp2
        go_ret
        exact ⟨⟨false, rfl, by simpa using HSF.out⟩, HBF.out⟩
    · have e1 : (id == id') = false := by simp [hx]
      have e2 : (id != id') = true := by simp [hx]
      have HSF : Hid (¬ S) := Lib.hid fun h => hx ((HS.out.1 h).2.1)
      clear hx HS
      go_wp2
      go_ret
      exact ⟨⟨false, rfl, by simpa using HSF.out⟩, HBF.out⟩
  · have ev : decide (V = V') = false := decide_eq_false hv
    rw [ev]
    have HSF : Hid (¬ S) := Lib.hid fun h => hv (HS.out.1 h).1
    clear hv ev HS
    go_wp2
    go_ret
    exact ⟨⟨false, rfl, by simpa using HSF.out⟩, HBF.out⟩
end Go.Proofs.YtamnhnleipnhdaaDoor
